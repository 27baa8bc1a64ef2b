package clocks_test

import (
	"math/rand/v2"
	"reflect"
	"slices"
	"testing"

	"pileup/api"
	"pileup/clocks"
)

// K6 to K14: the examples.
func TestExamples(t *testing.T) {
	s, s1 := sample(), sample(tie(0, 0, 1, 0))
	a, b, c, d := line(0, 0), line(0, 1), line(1, 0), line(1, 1)
	if l, e := clocks.Times(s); !sameLists(l, [][]api.Span{{{Lo: 90, Hi: 110}, {Lo: 150, Hi: 170}}, {{Lo: 92, Hi: 98}, {Lo: 155, Hi: 161}}}) || e != api.OK {
		t.Error(l, e)
	}
	if l, e := clocks.Times(s1); !sameLists(l, [][]api.Span{{{Lo: 90, Hi: 100}, {Lo: 150, Hi: 161}}, {{Lo: 92, Hi: 98}, {Lo: 155, Hi: 161}}}) || e != api.OK {
		t.Error(l, e)
	}
	if l, e := clocks.Earliest(s1); !sameLists(l, [][]int{{90, 150}, {92, 155}}) || e != api.OK {
		t.Error(l, e)
	}
	if l, e := clocks.Latest(s1); !sameLists(l, [][]int{{100, 161}, {98, 161}}) || e != api.OK {
		t.Error(l, e)
	}
	span := func(name string, x api.Span, e api.Errno, lo, hi int) {
		t.Helper()
		if x != (api.Span{Lo: lo, Hi: hi}) || e != api.OK {
			t.Error(name, x, e)
		}
	}
	x, e := clocks.Interval(s1, b)
	span("Interval", x, e, 150, 161)
	x, e = clocks.Offset(s1, a)
	span("Offset", x, e, 0, 10)
	x, e = clocks.Offset(s1, c)
	span("Offset", x, e, -3, 3)
	x, e = clocks.Relation(s1, a, c)
	span("Relation", x, e, -2, 2)
	x, e = clocks.Relation(s, a, b)
	span("Relation", x, e, 59, 61)
	x, e = clocks.Relation(s, b, a)
	span("Relation", x, e, -61, -59)
	x, e = clocks.Relation(s, d, d)
	span("Relation", x, e, 0, 0)
	is := func(name string, ok bool, e api.Errno, want bool) {
		t.Helper()
		if ok != want || e != api.OK {
			t.Error(name, ok, e)
		}
	}
	ok, e := clocks.Must(s1, b, d)
	is("Must", ok, e, false)
	ok, e = clocks.May(s1, b, d)
	is("May", ok, e, true)
	ok, e = clocks.Must(s1, a, c)
	is("Must", ok, e, true)
	ok, e = clocks.Before(s, c, b)
	is("Before", ok, e, true)
	ok, e = clocks.Before(s, b, c)
	is("Before", ok, e, false)
}

// K10 to K12: relations that just reach, just lie in and just leave the window, and lines at one minute.
func TestNearness(t *testing.T) {
	for _, x := range []struct {
		slip, shown, window int
		may, must, before   bool
	}{
		{0, 4, 4, true, true, true}, {0, 5, 4, false, false, true}, {0, 4, 5, true, true, true}, {0, 0, 0, true, true, false}, {0, 1, 0, false, false, true},
		{3, 10, 4, true, false, true}, {3, 10, 3, false, false, true}, {3, 10, 16, true, true, true}, {3, 10, 15, true, false, true},
		{3, 6, 0, true, false, false}, {3, 7, 0, false, false, true}, {3, 5, 0, true, false, false}, {3, 0, 5, true, false, false}, {3, 0, 6, true, true, false},
	} {
		s := api.System{Tracks: []api.Track{track(x.slip, 0, nil, 100), track(x.slip, 0, nil, 100+x.shown)}, Window: x.window}
		a, b := line(0, 0), line(1, 0)
		may, e := clocks.May(s, a, b)
		back, f := clocks.May(s, b, a)
		must, g := clocks.Must(s, a, b)
		trust, h := clocks.Must(s, b, a)
		before, i := clocks.Before(s, a, b)
		behind, k := clocks.Before(s, b, a)
		if e+f+g+h+i+k != api.OK || may != x.may || back != x.may || must != x.must || trust != x.must || before != x.before || behind {
			t.Error(x, may, back, must, trust, before, behind)
		}
	}
}

// K6 and others: systems without tracks, and tracks without lines.
func TestEmptySystems(t *testing.T) {
	for _, s := range []api.System{{}, {Window: 120}, {Tracks: make([]api.Track, 3)}, {Tracks: []api.Track{{}, track(4, 0, nil, 2), {}}}} {
		spans, e := clocks.Times(s)
		early, f := clocks.Earliest(s)
		late, g := clocks.Latest(s)
		var lines, lo, hi [][]int
		for log, t := range s.Tracks {
			var l []int
			for j := range t.Times {
				l = append(l, j)
				if spans[log][j] != (api.Span{Lo: -2, Hi: 6}) {
					spans = nil
				}
			}
			lines, lo, hi = append(lines, l), append(lo, slices.Repeat([]int{-2}, len(l))), append(hi, slices.Repeat([]int{6}, len(l)))
		}
		if e+f+g != api.OK || len(spans) != len(lines) || !sameLists(early, lo) || !sameLists(late, hi) {
			t.Error(s, spans, e, early, f, late, g)
		}
		if l, e := clocks.FindLoop(s); len(l) > 0 || e != api.ErrNone {
			t.Error(l, e)
		}
		if l, e := clocks.Accept(s, nil); len(l) > 0 || e != api.OK {
			t.Error(l, e)
		}
		if _, e := clocks.Interval(s, line(0, 0)); e != api.ErrNone {
			t.Error(e)
		}
	}
}

// spanIs holds the span of a line against what it should be.
func spanIs(t *testing.T, name string, s api.System, r api.Ref, lo, hi int) {
	t.Helper()
	if x, e := clocks.Interval(s, r); x != (api.Span{Lo: lo, Hi: hi}) || e != api.OK {
		t.Error(name, x, e)
	}
}

// K7: what is known of one line spreads along tracks, over ties, and not over jumps.
func TestSpreading(t *testing.T) {
	s := api.System{Tracks: []api.Track{track(100, 0, nil, 200, 210, 220), track(0, 0, nil, 250)}, Ties: []api.Tie{tie(0, 2, 1, 0)}, Window: 1}
	spanIs(t, "tied", s, line(0, 2), 249, 251)
	spanIs(t, "ahead", s, line(0, 1), 238, 242)
	spanIs(t, "further ahead", s, line(0, 0), 227, 233)
	s.Tracks[0].Clock.Jumps = []int{215}
	spanIs(t, "ahead of a jump", s, line(0, 1), 110, 251)
	spanIs(t, "further ahead of a jump", s, line(0, 0), 100, 242)
	s.Ties[0] = tie(1, 0, 0, 0)
	spanIs(t, "tied", s, line(0, 0), 249, 251)
	spanIs(t, "behind", s, line(0, 1), 258, 262)
	spanIs(t, "behind a jump", s, line(0, 2), 258, 320)
	s.Tracks[0].Clock.Jumps, s.Tracks[0].Clock.Drift = []int{200, 221}, 50
	spanIs(t, "drift", s, line(0, 1), 257, 263)
	spanIs(t, "drift again", s, line(0, 2), 265, 275)
}

// A call is a function of the chapter, with what it needs.
type call struct {
	name  string
	loops bool
	run   func(s api.System, a, b api.Ref) (any, api.Errno)
}

// calls are the functions that take a system; the ties that they may take are valid.
func calls() []call {
	given := func(s api.System) []api.Tie {
		for _, a := range refsOf(s) {
			for _, b := range refsOf(s) {
				if a.Log != b.Log {
					return []api.Tie{{A: a, B: b}}
				}
			}
		}
		return nil
	}
	return []call{
		{"Bounds", false, func(s api.System, a, b api.Ref) (any, api.Errno) { return clocks.Bounds(s) }},
		{"Times", true, func(s api.System, a, b api.Ref) (any, api.Errno) { return clocks.Times(s) }},
		{"Interval", true, func(s api.System, a, b api.Ref) (any, api.Errno) { return clocks.Interval(s, a) }},
		{"Offset", true, func(s api.System, a, b api.Ref) (any, api.Errno) { return clocks.Offset(s, a) }},
		{"Relation", true, func(s api.System, a, b api.Ref) (any, api.Errno) { return clocks.Relation(s, a, b) }},
		{"Relation back", true, func(s api.System, a, b api.Ref) (any, api.Errno) { return clocks.Relation(s, b, a) }},
		{"May", true, func(s api.System, a, b api.Ref) (any, api.Errno) { return clocks.May(s, a, b) }},
		{"Must", true, func(s api.System, a, b api.Ref) (any, api.Errno) { return clocks.Must(s, b, a) }},
		{"Before", true, func(s api.System, a, b api.Ref) (any, api.Errno) { return clocks.Before(s, a, b) }},
		{"Earliest", true, func(s api.System, a, b api.Ref) (any, api.Errno) { return clocks.Earliest(s) }},
		{"Latest", true, func(s api.System, a, b api.Ref) (any, api.Errno) { return clocks.Latest(s) }},
		{"Keeps", false, func(s api.System, a, b api.Ref) (any, api.Errno) { return clocks.Keeps(s, nil) }},
		{"FindLoop", false, func(s api.System, a, b api.Ref) (any, api.Errno) { return clocks.FindLoop(s) }},
		{"ValidLoop", false, func(s api.System, a, b api.Ref) (any, api.Errno) { return clocks.ValidLoop(s, nil) }},
		{"Path", true, func(s api.System, a, b api.Ref) (any, api.Errno) { return clocks.Path(s, a, true) }},
		{"Path back", true, func(s api.System, a, b api.Ref) (any, api.Errno) { return clocks.Path(s, a, false) }},
		{"ValidPath", false, func(s api.System, a, b api.Ref) (any, api.Errno) { return clocks.ValidPath(s, a, true, nil) }},
		{"Accept", true, func(s api.System, a, b api.Ref) (any, api.Errno) { return clocks.Accept(s, given(s)) }},
		{"Accept of none", true, func(s api.System, a, b api.Ref) (any, api.Errno) { return clocks.Accept(s, nil) }},
		{"Accept with refs", true, func(s api.System, a, b api.Ref) (any, api.Errno) { return clocks.Accept(s, []api.Tie{{A: a, B: b}}) }},
		{"Refusal", true, func(s api.System, a, b api.Ref) (any, api.Errno) { return clocks.Refusal(s, given(s), 0) }},
	}
}

// usesRef reports whether a function has the ref a among its arguments.
func (c call) usesRef() bool {
	return slices.Contains([]string{"Interval", "Offset", "Relation", "Relation back", "May", "Must", "Before", "Path", "Path back", "ValidPath", "Accept with refs"}, c.name)
}

// isZero reports whether a result is its zero value, or an empty slice.
func isZero(x any) bool {
	v := reflect.ValueOf(x)
	return v.IsZero() || v.Kind() == reflect.Slice && v.Len() == 0
}

// fails holds the error of a function against what it should be.
func (c call) fails(t *testing.T, s api.System, a, b api.Ref, want api.Errno) {
	t.Helper()
	kept := copyOf(s)
	x, e := c.run(s, a, b)
	if e != want || !isZero(x) {
		t.Error(c.name, x, e, "want", want)
	}
	if !sameSystem(s, kept) {
		t.Error(c.name, "changes the system")
	}
}

// The section Errors: Check, lines that there are, and loops, in this order.
func TestErrors(t *testing.T) {
	bad := []api.Ref{beginning, line(-1, -1), line(0, -1), line(0, 2), line(1, 2), line(2, 0), line(most, 0), line(least, 0), line(0, most), line(1, least)}
	limit := broken()
	limit.Tracks = append(limit.Tracks, make([]api.Track, 63)...)
	wrong := broken()
	wrong.Window = 121
	for _, c := range calls() {
		for _, r := range append(slices.Clone(bad), line(0, 0)) {
			c.fails(t, limit, r, line(1, 0), api.ErrLimit)
			c.fails(t, wrong, r, line(1, 0), api.ErrSystem)
		}
		if c.loops {
			c.fails(t, broken(), line(0, 0), line(1, 0), api.ErrLoop)
		} else if x, e := c.run(broken(), line(0, 0), line(1, 0)); e == api.ErrLoop {
			t.Error(c.name, x, e)
		}
		if !c.usesRef() {
			continue
		}
		for _, r := range bad {
			c.fails(t, sample(), r, line(1, 0), api.ErrNone)
			c.fails(t, broken(), r, line(1, 0), api.ErrNone)
		}
	}
	for _, c := range calls() {
		switch c.name {
		case "Relation", "Relation back", "May", "Must", "Before", "Accept with refs":
			for _, r := range bad {
				c.fails(t, sample(), line(1, 0), r, api.ErrNone)
				c.fails(t, broken(), line(1, 0), r, api.ErrNone)
			}
		}
	}
}

// No function changes a system of whatever kind, and results share no memory with it.
func TestArguments(t *testing.T) {
	r := rand.New(rand.NewPCG(3, 7))
	for range 300 {
		s := few().system(r)
		kept := copyOf(s)
		for _, c := range calls() {
			c.run(s, line(r.IntN(3), r.IntN(3)), line(r.IntN(3), r.IntN(3)))
		}
		if !sameSystem(s, kept) {
			t.Fatal(s, kept)
		}
	}
}

// K16 and K18: what is found is valid, with all bounds in their order.
func TestFinding(t *testing.T) {
	l, e := clocks.FindLoop(broken())
	if ok, f := clocks.ValidLoop(broken(), l); !ok || e+f != api.OK {
		t.Error(l, e, f)
	}
	for _, s := range []api.System{sample(), sample(tie(0, 0, 1, 0)), sample(tie(0, 0, 1, 0), tie(1, 1, 0, 1))} {
		if l, e := clocks.FindLoop(s); len(l) > 0 || e != api.ErrNone {
			t.Error(l, e)
		}
	}
	s := sample(tie(0, 0, 1, 0))
	up := []api.Bound{slip(beginning, line(1, 0), 98, 0), tied(line(1, 0), line(0, 0), 2, 0)}
	if l, e := clocks.Path(s, line(0, 0), true); !slices.Equal(l, up) || e != api.OK {
		t.Error(l, e)
	}
	down := []api.Bound{slip(line(0, 0), beginning, -90, 0)}
	if l, e := clocks.Path(s, line(0, 0), false); !slices.Equal(l, down) && len(l) != 2 || e != api.OK {
		t.Error(l, e)
	}
}
