package clocks

import (
	"iter"
	"slices"

	"pileup/api"
)

// maxWay is how many bounds a loop or a path has at most.
const maxWay = 30000

// maxTrue is the greatest minute that times given to Keeps may have, and minus the least one.
const maxTrue = 1000000

// beginning is the ref of the minute 0.
var beginning = api.Ref{Log: -1}

// bounds yields the bounds of a valid system.
func bounds(s api.System) iter.Seq[api.Bound] {
	return func(yield func(api.Bound) bool) {
		if slips(s, yield) && steps(s, yield) {
			ties(s, yield)
		}
	}
}

// slips yields the bounds of how wrong clocks are, and reports whether more are wanted.
func slips(s api.System, yield func(api.Bound) bool) bool {
	for log, t := range s.Tracks {
		for j, minute := range t.Times {
			r := api.Ref{Log: log, Line: j}
			up := api.Bound{From: beginning, To: r, Most: minute + t.Clock.Slip, Kind: api.BoundSlip, ID: j}
			down := api.Bound{From: r, To: beginning, Most: t.Clock.Slip - minute, Kind: api.BoundSlip, ID: j}
			if !yield(up) || !yield(down) {
				return false
			}
		}
	}
	return true
}

// steps yields the bounds between lines that follow one another, and reports whether more are wanted.
func steps(s api.System, yield func(api.Bound) bool) bool {
	for log, t := range s.Tracks {
		for j := range len(t.Times) - 1 {
			if !step(t, api.Ref{Log: log, Line: j}, yield) {
				return false
			}
		}
	}
	return true
}

// step yields the bounds between a line of a track and the next one, and reports whether more are wanted.
func step(t api.Track, r api.Ref, yield func(api.Bound) bool) bool {
	next := api.Ref{Log: r.Log, Line: r.Line + 1}
	if !yield(api.Bound{From: next, To: r, Kind: api.BoundOrder, ID: r.Line}) {
		return false
	}
	early, late := t.Times[r.Line], t.Times[next.Line]
	if segment(t.Clock, early) != segment(t.Clock, late) {
		return true
	}
	shown := late - early
	wrong := 1 + (t.Clock.Drift*shown+999)/1000
	return yield(api.Bound{From: r, To: next, Most: shown + wrong, Kind: api.BoundDrift, ID: r.Line}) &&
		yield(api.Bound{From: next, To: r, Most: wrong - shown, Kind: api.BoundDrift, ID: r.Line})
}

// ties yields the bounds of ties.
func ties(s api.System, yield func(api.Bound) bool) {
	for i, t := range s.Ties {
		there := api.Bound{From: t.A, To: t.B, Most: s.Window, Kind: api.BoundTie, ID: i}
		back := api.Bound{From: t.B, To: t.A, Most: s.Window, Kind: api.BoundTie, ID: i}
		if !yield(there) || !yield(back) {
			return
		}
	}
}

// Bounds returns the bounds of a system.
func Bounds(s api.System) ([]api.Bound, api.Errno) {
	if e := Check(s); e != api.OK {
		return nil, e
	}
	return slices.Collect(bounds(s)), api.OK
}

// moments are times of a system: the true minutes of the lines of each track.
type moments [][]int

// fit reports whether moments have a minute within the limits for each line of a system, and no more.
func (m moments) fit(s api.System) bool {
	if len(m) != len(s.Tracks) {
		return false
	}
	for log, t := range s.Tracks {
		if len(m[log]) != len(t.Times) {
			return false
		}
		for _, minute := range m[log] {
			if !within(minute, -maxTrue, maxTrue) {
				return false
			}
		}
	}
	return true
}

// at returns the minute of a line or of the beginning.
func (m moments) at(r api.Ref) int {
	if r == beginning {
		return 0
	}
	return m[r.Log][r.Line]
}

// keep reports whether what a bound says is true of moments.
func (m moments) keep(b api.Bound) bool { return m.at(b.To) <= m.at(b.From)+b.Most }

// Keeps reports whether times keep all bounds of a system.
func Keeps(s api.System, l [][]int) (bool, api.Errno) {
	if e := Check(s); e != api.OK {
		return false, e
	}
	m := moments(l)
	if !m.fit(s) {
		return false, api.OK
	}
	keeps := m.keep
	for b := range bounds(s) {
		if !keeps(b) {
			return false, api.OK
		}
	}
	return true, api.OK
}

// leads reports whether bounds are bounds of a valid system that lead from one ref to another one, each from where the one before it leads to.
func leads(s api.System, l []api.Bound, from, to api.Ref) bool {
	if !within(len(l), 1, maxWay) {
		return false
	}
	missing := map[api.Bound]bool{}
	for _, b := range l {
		if b.From != from {
			return false
		}
		from = b.To
		missing[b] = true
	}
	for b := range bounds(s) {
		delete(missing, b)
	}
	return from == to && len(missing) == 0
}

// total returns the sum of the Most of bounds.
func total(l []api.Bound) int {
	n := 0
	for _, b := range l {
		n += b.Most
	}
	return n
}

// ValidLoop reports whether bounds are a loop of a system.
func ValidLoop(s api.System, l []api.Bound) (bool, api.Errno) {
	if e := Check(s); e != api.OK || len(l) == 0 {
		return false, e
	}
	start := l[0].From
	return leads(s, l, start, start) && total(l) < 0, api.OK
}

// ValidPath returns the end of the span of a line that a path proves.
func ValidPath(s api.System, r api.Ref, latest bool, l []api.Bound) (int, api.Errno) {
	if e := checkLines(s, r); e != api.OK {
		return 0, e
	}
	switch {
	case latest && leads(s, l, beginning, r):
		return total(l), api.OK
	case !latest && leads(s, l, r, beginning):
		return -total(l), api.OK
	}
	return 0, api.ErrPath
}
