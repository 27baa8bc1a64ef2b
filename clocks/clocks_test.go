package clocks_test

import (
	"math"
	"math/rand/v2"
	"slices"
	"testing"

	"pileup/api"
	"pileup/clocks"
)

const (
	most  = math.MaxInt
	least = math.MinInt
)

// beginning is the ref of the minute 0.
var beginning = api.Ref{Log: -1}

// line, tie and track are short ways to write them.
func line(log, j int) api.Ref    { return api.Ref{Log: log, Line: j} }
func tie(a, j, b, k int) api.Tie { return api.Tie{A: line(a, j), B: line(b, k)} }
func track(slip, drift int, jumps []int, times ...int) api.Track {
	return api.Track{Clock: api.Clock{Slip: slip, Drift: drift, Jumps: jumps}, Times: times}
}

// sample is the system S of the document's examples, with ties.
func sample(ties ...api.Tie) api.System {
	return api.System{Tracks: []api.Track{track(10, 0, nil, 100, 160), track(3, 0, nil, 95, 158)}, Ties: ties, Window: 2}
}

// broken is the sample with a tie that cannot be true.
func broken() api.System { return sample(tie(0, 0, 1, 1)) }

// copyOf returns a system that shares no memory with another one.
func copyOf(s api.System) api.System {
	s.Tracks, s.Ties = slices.Clone(s.Tracks), slices.Clone(s.Ties)
	for i := range s.Tracks {
		s.Tracks[i].Times = slices.Clone(s.Tracks[i].Times)
		s.Tracks[i].Clock.Jumps = slices.Clone(s.Tracks[i].Clock.Jumps)
	}
	return s
}

// sameSystem reports whether two systems are equal.
func sameSystem(a, b api.System) bool {
	return a.Window == b.Window && slices.Equal(a.Ties, b.Ties) && slices.EqualFunc(a.Tracks, b.Tracks, func(x, y api.Track) bool {
		return x.Clock.Slip == y.Clock.Slip && x.Clock.Drift == y.Clock.Drift && slices.Equal(x.Clock.Jumps, y.Clock.Jumps) && slices.Equal(x.Times, y.Times)
	})
}

// sameLists reports whether two lists of lists are equal.
func sameLists[T comparable](a, b [][]T) bool { return slices.EqualFunc(a, b, slices.Equal[[]T]) }

// refsOf returns all lines of a system.
func refsOf(s api.System) []api.Ref {
	var l []api.Ref
	for log, t := range s.Tracks {
		for j := range t.Times {
			l = append(l, line(log, j))
		}
	}
	return l
}

// chance is what random systems are made of.
type chance struct {
	tracks, lines, ties   int
	slip, gap, hop, drift int
	window                int
}

// few makes small systems of which all times can be tried, many makes greater ones.
func few() chance {
	return chance{tracks: 3, lines: 3, ties: 4, slip: 3, gap: 4, hop: 3, drift: 100, window: 1}
}
func many() chance {
	return chance{tracks: 5, lines: 9, ties: 6, slip: 30, gap: 25, hop: 8, drift: 100, window: 6}
}

// system returns a random system whose tracks show much the same minutes.
func (c chance) system(r *rand.Rand) api.System {
	s := api.System{Window: r.IntN(c.window + 1)}
	for range r.IntN(c.tracks + 1) {
		t := track(r.IntN(c.slip+1), []int{0, r.IntN(c.drift + 1)}[r.IntN(2)], nil)
		minute := r.IntN(c.gap + 1)
		for range r.IntN(c.lines + 1) {
			t.Times = append(t.Times, minute)
			minute += r.IntN(c.gap + 1)
			if r.IntN(c.hop) == 0 && !slices.Contains(t.Clock.Jumps, minute) && minute > 0 {
				t.Clock.Jumps = append(t.Clock.Jumps, minute)
			}
		}
		if len(t.Clock.Jumps) > api.MaxJumps {
			t.Clock.Jumps = t.Clock.Jumps[:api.MaxJumps]
		}
		s.Tracks = append(s.Tracks, t)
	}
	s.Ties = c.tiesOf(r, s, r.IntN(c.ties+1))
	return s
}

// tiesOf returns at most n random ties of lines that show much the same minute, most of them.
func (c chance) tiesOf(r *rand.Rand, s api.System, n int) []api.Tie {
	var l []api.Tie
	refs := refsOf(s)
	for range 4 * n {
		if len(refs) == 0 || len(l) == n {
			break
		}
		t := api.Tie{A: refs[r.IntN(len(refs))], B: refs[r.IntN(len(refs))]}
		away := s.Tracks[t.A.Log].Times[t.A.Line] - s.Tracks[t.B.Log].Times[t.B.Line]
		if t.A.Log != t.B.Log && (max(away, -away) <= 2*c.slip+s.Window || r.IntN(8) == 0) {
			l = append(l, t)
		}
	}
	return l
}

// K1: each field at its limits and beyond.
func TestValidClock(t *testing.T) {
	full := make([]int, api.MaxJumps)
	for i := range full {
		full[i] = i
	}
	for _, c := range []api.Clock{{}, {Slip: 1440, Drift: 100}, {Jumps: []int{}}, {Jumps: []int{0}}, {Jumps: []int{20000}}, {Jumps: []int{0, 1, 20000}}, {Jumps: full}} {
		if !clocks.ValidClock(c) {
			t.Error(c)
		}
	}
	for _, c := range []api.Clock{{Slip: -1}, {Slip: 1441}, {Slip: most}, {Slip: least}, {Drift: -1}, {Drift: 101}, {Drift: most}, {Drift: least},
		{Jumps: []int{-1}}, {Jumps: []int{20001}}, {Jumps: []int{least}}, {Jumps: []int{most}}, {Jumps: []int{5, 5}}, {Jumps: []int{6, 5}}, {Jumps: []int{1, 3, 2}}, {Jumps: []int{0, 20001}},
		{Jumps: append(slices.Clone(full), 16)}} {
		if clocks.ValidClock(c) {
			t.Error(c)
		}
	}
}

// K2.
func TestValidTrack(t *testing.T) {
	jump := []int{100}
	for _, x := range []api.Track{{}, track(0, 0, nil, 0), track(1440, 100, jump, 20000), track(0, 0, nil, 0, 0, 7, 7, 20000, 20000), track(0, 0, nil, make([]int, 400)...), track(3, 0, jump)} {
		if !clocks.ValidTrack(x) {
			t.Error(x)
		}
	}
	for _, x := range []api.Track{track(-1, 0, nil, 5), track(0, 101, nil), track(0, 0, []int{3, 3}, 5), track(0, 0, nil, -1), track(0, 0, nil, 20001), track(0, 0, nil, 7, 6), track(0, 0, nil, 7, 8, 7), track(0, 0, nil, most), track(0, 0, nil, least),
		track(0, 0, nil, 0, 20000, 20001), track(0, 0, nil, make([]int, 401)...)} {
		if clocks.ValidTrack(x) {
			t.Error(x)
		}
	}
}

// K3: limits first, then whatever else makes a system invalid.
func TestCheck(t *testing.T) {
	is := func(name string, s api.System, want api.Errno) {
		t.Helper()
		kept := copyOf(s)
		if e := clocks.Check(s); e != want || !sameSystem(s, kept) {
			t.Error(name, e, "want", want)
		}
	}
	is("zero", api.System{}, api.OK)
	is("sample", sample(), api.OK)
	is("not closed", broken(), api.OK)
	is("repeated", sample(tie(0, 0, 1, 0), tie(1, 0, 0, 0), tie(0, 0, 1, 0)), api.OK)
	is("windows", api.System{Window: 120}, api.OK)
	is("empty tracks", api.System{Tracks: make([]api.Track, 64)}, api.OK)
	is("400 ties", sample(slices.Repeat([]api.Tie{tie(0, 0, 1, 0)}, 400)...), api.OK)
	is("65 tracks", api.System{Tracks: make([]api.Track, 65)}, api.ErrLimit)
	is("65 tracks, and more", api.System{Tracks: append(make([]api.Track, 64), track(-1, 0, nil)), Window: -1}, api.ErrLimit)
	is("401 ties", sample(slices.Repeat([]api.Tie{tie(0, 0, 1, 0)}, 401)...), api.ErrLimit)
	is("401 ties, and more", api.System{Ties: make([]api.Tie, 401), Window: 121}, api.ErrLimit)
	for _, window := range []int{-1, 121, most, least} {
		is("window", api.System{Window: window}, api.ErrSystem)
	}
	is("track", api.System{Tracks: []api.Track{{}, track(0, 0, nil, 2, 1)}}, api.ErrSystem)
	is("lines", api.System{Tracks: []api.Track{track(0, 0, nil, make([]int, 401)...)}}, api.ErrSystem)
	is("jumps", api.System{Tracks: []api.Track{track(0, 0, make([]int, 17))}}, api.ErrSystem)
	for _, r := range []api.Ref{beginning, line(0, 2), line(0, -1), line(2, 0), line(-1, -1), line(most, 0), line(least, 0), line(0, most), line(0, least)} {
		is("no line", sample(tie(0, 0, 1, 0), api.Tie{A: r, B: line(1, 0)}), api.ErrSystem)
		is("no line", sample(api.Tie{A: line(1, 0), B: r}), api.ErrSystem)
	}
	is("one track", sample(tie(0, 0, 0, 1)), api.ErrSystem)
	is("one line", sample(tie(1, 0, 1, 0)), api.ErrSystem)
	is("ties of nothing", api.System{Ties: make([]api.Tie, 1)}, api.ErrSystem)
}

// K4.
func TestSegment(t *testing.T) {
	c := api.Clock{Jumps: []int{0, 10, 11, 20000}}
	for minute, want := range map[int]int{0: 1, 9: 1, 10: 2, 11: 3, 12: 3, 19999: 3, 20000: 4} {
		if n, e := clocks.Segment(c, minute); n != want || e != api.OK {
			t.Error(minute, n, e)
		}
	}
	if n, e := clocks.Segment(api.Clock{}, 20000); n != 0 || e != api.OK {
		t.Error(n, e)
	}
	for _, minute := range []int{-1, 20001, most, least} {
		if n, e := clocks.Segment(c, minute); n != 0 || e != api.ErrArg {
			t.Error(minute, n, e)
		}
	}
	for _, c := range []api.Clock{{Slip: -1}, {Drift: 101}, {Jumps: []int{3, 3}}, {Jumps: []int{2, 20001}}} {
		if n, e := clocks.Segment(c, 5); n != 0 || e != api.ErrArg {
			t.Error(c, n, e)
		}
	}
}
