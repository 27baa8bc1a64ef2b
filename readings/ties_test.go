package readings_test

import (
	"math/rand/v2"
	"slices"
	"testing"

	"pileup/air"
	"pileup/api"
	"pileup/clocks"
	"pileup/readings"
)

// linesOf returns the refs of all lines of a case, in order.
func linesOf(c api.Case) []api.Ref {
	var refs []api.Ref
	for i, l := range c.Logs {
		for j := range l.Lines {
			refs = append(refs, ref(i, j))
		}
	}
	return refs
}

// at returns a line of a case.
func at(c api.Case, r api.Ref) api.Line { return c.Logs[r.Log].Lines[r.Line] }

// inBand reports whether two lines of a case are in the same band, and in the same mode.
func inBand(c api.Case, a, b api.Ref) bool {
	m, e := air.BandOf(c.Contest.Bands, at(c, a).Khz)
	n, f := air.BandOf(c.Contest.Bands, at(c, b).Khz)
	return e == api.OK && f == api.OK && m == n && at(c, a).Mode == at(c, b).Mode
}

// inForce reports whether a line is in a duo of Force.
func inForce(c api.Case, r api.Ref) bool {
	return slices.ContainsFunc(c.Force, func(x api.Duo) bool { return x.A == r || x.B == r })
}

// agree reports whether two lines agree, by the words of the document.
func agree(c api.Case, a, b api.Ref) bool {
	for _, r := range []api.Ref{a, b} {
		if slices.Contains(c.Struck, r) || inForce(c, r) {
			return false
		}
	}
	x, y := at(c, a), at(c, b)
	apart := max(x.Minute-y.Minute, y.Minute-x.Minute)
	return a.Log < b.Log && !slices.Contains(c.Forbid, api.Duo{A: a, B: b}) && inBand(c, a, b) && x.Call == c.Logs[b.Log].Call && y.Call == c.Logs[a.Log].Call && x.Got == y.Sent && y.Got == x.Sent && apart <= 2*c.Contest.Slip+c.Contest.Window
}

// tiesOf returns the ties of a case, by the words of the document.
func tiesOf(c api.Case) []api.Tie {
	var l []api.Tie
	for _, x := range c.Force {
		l = append(l, api.Tie{A: x.A, B: x.B})
	}
	refs := linesOf(c)
	for _, a := range refs {
		for _, b := range refs {
			if !agree(c, a, b) {
				continue
			}
			other := func(r api.Ref) bool {
				return r.Log == b.Log && r != b && agree(c, a, r) || r.Log == a.Log && r != a && agree(c, r, b)
			}
			if !slices.ContainsFunc(refs, other) {
				l = append(l, api.Tie{A: a, B: b})
			}
		}
	}
	return l[:min(len(l), 400)]
}

// R20: lines that agree, and lines that differ from them in one thing.
func TestTies(t *testing.T) {
	first, second := tie(0, 0, 1, 0), tie(0, 1, 1, 1)
	change := func(f func(x, y *api.Line, c *api.Case)) api.Case {
		c := pairing()
		f(&c.Logs[0].Lines[0], &c.Logs[1].Lines[0], &c)
		return c
	}
	for i, x := range []struct {
		c    api.Case
		want []api.Tie
	}{
		{pairing(), []api.Tie{first, second}}, {caseOf(), nil}, {caseOf(log("A1A")), nil}, {caseOf(log("A1A", qso(100, "A1A", 1, 1), qso(101, "A1A", 1, 1))), nil},
		{change(func(x, y *api.Line, c *api.Case) { x.Khz, y.Khz = 1800, 2000 }), []api.Tie{first, second}}, {change(func(x, y *api.Line, c *api.Case) { x.Khz = 3500 }), []api.Tie{second}}, {change(func(x, y *api.Line, c *api.Case) { x.Khz, y.Khz = 3500, 3800 }), []api.Tie{first, second}}, {change(func(x, y *api.Line, c *api.Case) { x.Khz, y.Khz = 2500, 2500 }), []api.Tie{second}}, {change(func(x, y *api.Line, c *api.Case) { c.Contest.Bands = nil }), nil},
		{change(func(x, y *api.Line, c *api.Case) { x.Mode = api.Voice }), []api.Tie{second}}, {change(func(x, y *api.Line, c *api.Case) { x.Mode, y.Mode = api.Voice, api.Voice }), []api.Tie{first, second}},
		{change(func(x, y *api.Line, c *api.Case) { x.Call = "B1A" }), []api.Tie{second}}, {change(func(x, y *api.Line, c *api.Case) { y.Call = "A1A/P" }), []api.Tie{second}}, {change(func(x, y *api.Line, c *api.Case) { x.Call = "A1A" }), []api.Tie{second}}, {change(func(x, y *api.Line, c *api.Case) { y.Call = "B1B" }), []api.Tie{second}},
		{change(func(x, y *api.Line, c *api.Case) { x.Got.Serial++ }), []api.Tie{second}}, {change(func(x, y *api.Line, c *api.Case) { y.Got.Serial++ }), []api.Tie{second}}, {change(func(x, y *api.Line, c *api.Case) { x.Sent.Report-- }), []api.Tie{second}}, {change(func(x, y *api.Line, c *api.Case) { y.Sent.Report-- }), []api.Tie{second}},
		{change(func(x, y *api.Line, c *api.Case) { y.Minute = 113 }), []api.Tie{first, second}}, {change(func(x, y *api.Line, c *api.Case) { y.Minute = 114 }), []api.Tie{second}}, {change(func(x, y *api.Line, c *api.Case) { y.Minute = 87 }), []api.Tie{first, second}}, {change(func(x, y *api.Line, c *api.Case) { y.Minute = 86 }), []api.Tie{second}}, {change(func(x, y *api.Line, c *api.Case) { c.Contest.Slip, c.Contest.Window = 0, 1 }), []api.Tie{first, second}}, {change(func(x, y *api.Line, c *api.Case) { c.Contest.Slip, c.Contest.Window = 0, 0 }), nil},
		{altered(struck(ref(0, 0))), []api.Tie{second}}, {altered(struck(ref(1, 0))), []api.Tie{second}}, {altered(apart(duo(0, 0, 1, 0))), []api.Tie{second}}, {altered(apart(duo(0, 0, 1, 1), duo(0, 1, 1, 0))), []api.Tie{first, second}},
		{altered(together(duo(0, 0, 1, 0))), []api.Tie{first, second}}, {altered(together(duo(0, 1, 1, 1))), []api.Tie{second, first}}, {altered(together(duo(0, 0, 1, 1))), []api.Tie{tie(0, 0, 1, 1)}}, {altered(together(duo(0, 0, 1, 1), duo(0, 1, 1, 0))), []api.Tie{tie(0, 0, 1, 1), tie(0, 1, 1, 0)}},
		// A line that agrees with two lines of a log is in no tie with it, nor are these; with other logs it may be.
		{caseOf(log("A1A", qso(100, "B1B", 1, 1)), log("B1B", qso(100, "A1A", 1, 1), qso(101, "A1A", 1, 1))), nil},
		{caseOf(log("A1A", qso(100, "B1B", 1, 1), qso(101, "B1B", 1, 1)), log("B1B", qso(100, "A1A", 1, 1))), nil},
		{caseOf(log("A1A", qso(100, "B1B", 1, 1), qso(101, "B1B", 1, 1)), log("B1B", qso(113, "A1A", 1, 1))), nil},
		{caseOf(log("A1A", qso(100, "B1B", 1, 1), qso(101, "B1B", 1, 1)), log("B1B", qso(114, "A1A", 1, 1))), []api.Tie{tie(0, 1, 1, 0)}},
		{caseOf(log("A1A", qso(100, "B1B", 1, 1)), log("B1B", qso(87, "A1A", 1, 1), qso(100, "A1A", 1, 2), qso(114, "A1A", 1, 1))), []api.Tie{tie(0, 0, 1, 0)}},
		{caseOf(log("A1A", qso(100, "C1C", 1, 1), qso(200, "B1B", 1, 1)), log("B1B", qso(200, "A1A", 1, 1), qso(300, "C1C", 1, 1)), log("C1C", qso(100, "A1A", 1, 1), qso(300, "B1B", 1, 1))), []api.Tie{tie(0, 0, 2, 0), tie(0, 1, 1, 0), tie(1, 1, 2, 1)}},
	} {
		l, e := readings.Ties(x.c)
		if !slices.Equal(l, x.want) || e != api.OK {
			t.Error(i, l, e, "want", x.want)
		}
		if want := tiesOf(x.c); !slices.Equal(x.want, want) {
			t.Error(i, x.want, want)
		}
	}
}

// manyContacts returns logs of which each two that follow one another have contacts: n of the first two, m of the next two.
func manyContacts(n, m int) api.Case {
	contacts := func(a, b string, n int) []api.Log {
		var x, y []api.Line
		for i := range n {
			x = append(x, qso(i, b, i+1, i+1))
			y = append(y, qso(i, a, i+1, i+1))
		}
		return []api.Log{log(a, x...), log(b, y...)}
	}
	return caseOf(append(contacts("A1A", "B1B", n), contacts("C1C", "D1D", m)...)...)
}

// R20, R21: more than MaxTies ties; those of Force come first.
func TestManyTies(t *testing.T) {
	for _, n := range []int{99, 100, 101, 150} {
		c := manyContacts(300, n)
		c.Force = []api.Duo{duo(2, 90, 3, 91), duo(2, 91, 3, 90)}
		want := []api.Tie{tie(2, 90, 3, 91), tie(2, 91, 3, 90)}
		for i := range 300 {
			want = append(want, tie(0, i, 1, i))
		}
		for i := range min(n, 100) {
			if i != 90 && i != 91 {
				want = append(want, tie(2, i, 3, i))
			}
		}
		if l, e := readings.Ties(c); !slices.Equal(l, want) || len(l) > api.MaxTies || e != api.OK {
			t.Error(n, len(l), e, "want", len(want))
		}
		if s, e := readings.System(c); !slices.Equal(s.Ties, want) || clocks.Check(s) != api.OK || e != api.OK {
			t.Error(n, len(s.Ties), e)
		}
	}
	// Force alone is more than that.
	c := manyContacts(300, 150)
	for i := range 300 {
		c.Force = append(c.Force, duo(0, i, 1, i))
	}
	for i := range 150 {
		c.Force = append(c.Force, duo(2, i, 3, i))
	}
	want := tiesOf(c)
	if l, e := readings.Ties(c); !slices.Equal(l, want) || len(l) != api.MaxTies || l[399] != tie(2, 99, 3, 99) || e != api.OK {
		t.Error(len(l), e)
	}
}

// R21: the clocks of a case, and ties that are refused.
func TestSystem(t *testing.T) {
	c := pairing()
	c.Logs[1].Jumps = []int{150, 20000}
	c.Contest.Window = 4
	s, e := readings.System(c)
	want := api.System{Tracks: []api.Track{{Clock: api.Clock{Slip: 5, Drift: 10}, Times: []int{100, 200}}, {Clock: api.Clock{Slip: 5, Drift: 10, Jumps: []int{150, 20000}}, Times: []int{101, 201}}}, Ties: []api.Tie{tie(0, 0, 1, 0), tie(0, 1, 1, 1)}, Window: 4}
	if !sameSystem(s, want) || e != api.OK {
		t.Error(s, e)
	}
	s.Tracks[1].Clock.Jumps[0], s.Tracks[0].Times[0] = 7, 7
	if c.Logs[1].Jumps[0] != 150 || c.Logs[0].Lines[0].Minute != 100 {
		t.Error(c)
	}
	if s, e := readings.System(caseOf()); !sameSystem(s, api.System{Window: 3}) || e != api.OK {
		t.Error(s, e)
	}
	for i, x := range []struct {
		c    api.Case
		want []api.Tie
	}{
		// No clock is so wrong: what judges say of these lines is no tie.
		{altered(together(duo(0, 0, 1, 1))), nil},
		{altered(together(duo(0, 0, 1, 1), duo(0, 1, 1, 0))), nil},
		{altered(struck(ref(0, 0)), together(duo(0, 1, 1, 0))), nil},
		// Struck lines keep their minutes.
		{altered(struck(ref(0, 0), ref(1, 1))), nil},
		// The second contact is 13 minutes apart the other way round: the clocks do not drift so much in between.
		{caseOf(log("A1A", qso(100, "B1B", 1, 1), qso(200, "B1B", 2, 2)), log("B1B", qso(113, "A1A", 1, 1), qso(187, "A1A", 2, 2))), []api.Tie{tie(0, 0, 1, 0)}},
		{caseOf(log("A1A", qso(100, "B1B", 1, 1), qso(200, "B1B", 2, 2), qso(300, "B1B", 3, 3)), log("B1B", qso(113, "A1A", 1, 1), qso(187, "A1A", 2, 2), qso(309, "A1A", 3, 3))), []api.Tie{tie(0, 0, 1, 0), tie(0, 2, 1, 2)}},
	} {
		s, e := readings.System(x.c)
		if !slices.Equal(s.Ties, x.want) || e != api.OK || len(s.Tracks) != len(x.c.Logs) {
			t.Error(i, s, e, "want", x.want)
		}
		for k, l := range x.c.Logs {
			if len(s.Tracks[k].Times) != len(l.Lines) {
				t.Error(i, s)
			}
		}
	}
}

// sameSystem reports whether two systems are equal.
func sameSystem(a, b api.System) bool {
	sameTrack := func(x, y api.Track) bool {
		return x.Clock.Slip == y.Clock.Slip && x.Clock.Drift == y.Clock.Drift && slices.Equal(x.Clock.Jumps, y.Clock.Jumps) && slices.Equal(x.Times, y.Times)
	}
	return slices.EqualFunc(a.Tracks, b.Tracks, sameTrack) && slices.Equal(a.Ties, b.Ties) && a.Window == b.Window
}

// someCase returns a random case in which many lines agree, or nearly.
func someCase(r *rand.Rand) api.Case {
	c := caseOf()
	calls := []string{"A1A", "A1AA", "B1B", "C1C", "D1D"}
	heard := append(slices.Clone(calls), "B1C", "Z9Z")
	k := &c.Contest
	k.Slip, k.Window, k.Drift, k.Near, k.Pardon, k.Lost, k.Stranger = r.IntN(4), r.IntN(3), r.IntN(60), r.IntN(9), r.IntN(4), r.IntN(6), r.IntN(4)
	k.Layout.Serial = r.IntN(4) > 0
	for _, call := range calls {
		if r.IntN(4) == 0 {
			continue
		}
		var l []api.Line
		minute := r.IntN(4)
		for range r.IntN(5) {
			x := qso(minute, heard[r.IntN(len(heard))], 1+r.IntN(2), 1+r.IntN(2))
			x.Khz = []int{1900, 1901, 1900, 3600, 2500}[r.IntN(5)]
			x.Mode = api.Data - r.IntN(5)/4
			if !k.Layout.Serial {
				x.Sent.Serial, x.Got.Serial = 0, 0
			}
			l = append(l, x)
			minute += r.IntN(4)
		}
		one := log(call, l...)
		if r.IntN(3) == 0 {
			one.Jumps = []int{1 + r.IntN(12)}
		}
		c.Logs = append(c.Logs, one)
	}
	judge(r, &c)
	return c
}

// judge decides on some lines of a case.
func judge(r *rand.Rand, c *api.Case) {
	refs := linesOf(*c)
	for _, a := range refs {
		if r.IntN(12) == 0 {
			c.Struck = append(c.Struck, a)
		}
	}
	for _, a := range refs {
		for _, b := range refs {
			switch x := (api.Duo{A: a, B: b}); {
			case a.Log >= b.Log || slices.Contains(c.Struck, a) || slices.Contains(c.Struck, b):
			case r.IntN(20) == 0 && !inForce(*c, a) && !inForce(*c, b):
				c.Force = append(c.Force, x)
			case r.IntN(20) == 0:
				c.Forbid = append(c.Forbid, x)
			}
		}
	}
}

// R20, R21, P5.8, P0.3: random cases, held against the words of the document. What is refused comes with a loop, and each tie is of lines that are together at all times.
func TestTiesOfRandom(t *testing.T) {
	r := rand.New(rand.NewPCG(5, 20))
	tied, refused := 0, 0
	for range 1500 {
		c := someCase(r)
		if e, n := readings.CheckCase(c); e != api.OK {
			t.Fatal(c, e, n)
		}
		ties, e := readings.Ties(c)
		s, f := readings.System(c)
		if want := tiesOf(c); !slices.Equal(ties, want) || e+f != api.OK {
			t.Fatal(c, ties, e, f, "want", want)
		}
		clear := s
		clear.Ties = nil
		accepted, e := clocks.Accept(clear, ties)
		var want []api.Tie
		for i, x := range ties {
			if accepted[i] {
				want = append(want, x)
				continue
			}
			refused++
			loop, e := clocks.Refusal(clear, ties, i)
			with := clear
			with.Ties = append(slices.Clone(want), x)
			if ok, f := clocks.ValidLoop(with, loop); !ok || e+f != api.OK {
				t.Fatal(c, ties, i, loop, e, f)
			}
		}
		if !slices.Equal(s.Ties, want) || e != api.OK {
			t.Fatal(c, s.Ties, "want", want)
		}
		for _, x := range s.Ties {
			tied++
			if must, e := clocks.Must(s, x.A, x.B); !must || e != api.OK {
				t.Fatal(c, x, must, e)
			}
		}
	}
	if tied < 500 || refused < 50 {
		t.Error(tied, refused)
	}
}
