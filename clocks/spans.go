package clocks

import (
	"slices"

	"pileup/api"
)

// A view tells by how much lines may be later than one ref: at most as the wave from there says, and at least minus what the wave back to it says.
type view struct {
	net         *net
	there, back *wave
}

// viewFrom returns the view from a ref of a valid system.
func viewFrom(s api.System, from api.Ref) (*view, api.Errno) {
	n := newNet(s)
	there, l := n.spread(from)
	if l != nil {
		return nil, api.ErrLoop
	}
	// A net without loops has none when it is turned around.
	back, _ := n.turned().spread(from)
	return &view{n, there, back}, api.OK
}

// span returns by how much a line may be later.
func (v *view) span(r api.Ref) api.Span {
	at := v.net.place(r)
	return api.Span{Lo: -v.back.sums[at], Hi: v.there.sums[at]}
}

// ofLines returns a value of the span of each line, in a list for each track.
func ofLines[T any](s api.System, value func(api.Span) T) ([][]T, api.Errno) {
	if e := Check(s); e != api.OK {
		return nil, e
	}
	v, e := viewFrom(s, beginning)
	if e != api.OK {
		return nil, e
	}
	var all [][]T
	for log, t := range s.Tracks {
		var l []T
		for j := range t.Times {
			l = append(l, value(v.span(api.Ref{Log: log, Line: j})))
		}
		all = append(all, l)
	}
	return all, api.OK
}

// Times returns the spans of all lines.
func Times(s api.System) ([][]api.Span, api.Errno) {
	return ofLines(s, func(x api.Span) api.Span { return x })
}

// Earliest returns the times in which each line has its least number.
func Earliest(s api.System) ([][]int, api.Errno) {
	return ofLines(s, func(x api.Span) int { return x.Lo })
}

// Latest returns the times in which each line has its greatest number.
func Latest(s api.System) ([][]int, api.Errno) {
	return ofLines(s, func(x api.Span) int { return x.Hi })
}

// Interval returns the span of a line.
func Interval(s api.System, r api.Ref) (api.Span, api.Errno) {
	if e := checkLines(s, r); e != api.OK {
		return api.Span{}, e
	}
	v, e := viewFrom(s, beginning)
	if e != api.OK {
		return api.Span{}, e
	}
	return v.span(r), api.OK
}

// Offset returns by how much the clock was ahead of the true time at a line.
func Offset(s api.System, r api.Ref) (api.Span, api.Errno) {
	x, e := Interval(s, r)
	if e != api.OK {
		return api.Span{}, e
	}
	shown := s.Tracks[r.Log].Times[r.Line]
	return api.Span{Lo: shown - x.Hi, Hi: shown - x.Lo}, api.OK
}

// Relation returns the span of the true minute of b less that of a.
func Relation(s api.System, a, b api.Ref) (api.Span, api.Errno) {
	if e := checkLines(s, a, b); e != api.OK {
		return api.Span{}, e
	}
	v, e := viewFrom(s, a)
	if e != api.OK {
		return api.Span{}, e
	}
	return v.span(b), api.OK
}

// May reports whether two lines can be at most Window apart.
func May(s api.System, a, b api.Ref) (bool, api.Errno) {
	x, e := Relation(s, a, b)
	return e == api.OK && x.Lo <= s.Window && x.Hi >= -s.Window, e
}

// Must reports whether two lines are at most Window apart in all times that keep all bounds.
func Must(s api.System, a, b api.Ref) (bool, api.Errno) {
	x, e := Relation(s, a, b)
	return e == api.OK && x.Lo >= -s.Window && x.Hi <= s.Window, e
}

// Before reports whether a is earlier than b in all times that keep all bounds.
func Before(s api.System, a, b api.Ref) (bool, api.Errno) {
	x, e := Relation(s, a, b)
	return e == api.OK && x.Lo > 0, e
}

// named returns the bounds of a system that are the edges of its net with these indices.
func named(s api.System, edges []int) []api.Bound {
	all := slices.Collect(bounds(s))
	var l []api.Bound
	for _, i := range edges {
		l = append(l, all[i])
	}
	return l
}

// FindLoop returns a loop of a system.
func FindLoop(s api.System) ([]api.Bound, api.Errno) {
	if e := Check(s); e != api.OK {
		return nil, e
	}
	_, l := newNet(s).spread(beginning)
	if l == nil {
		return nil, api.ErrNone
	}
	return named(s, l), api.OK
}

// Path returns bounds that prove an end of the span of a line.
func Path(s api.System, r api.Ref, latest bool) ([]api.Bound, api.Errno) {
	if e := checkLines(s, r); e != api.OK {
		return nil, e
	}
	n := newNet(s)
	if !latest {
		n = n.turned()
	}
	w, l := n.spread(beginning)
	if l != nil {
		return nil, api.ErrLoop
	}
	way := w.way(n.place(beginning), n.place(r))
	if !latest {
		slices.Reverse(way)
	}
	return named(s, way), api.OK
}
