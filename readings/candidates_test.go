package readings_test

import (
	"math/rand/v2"
	"slices"
	"testing"

	"pileup/api"
	"pileup/clocks"
	"pileup/copying"
	"pileup/logs"
	"pileup/readings"
)

// near is a short way to write a candidate.
func near(a, j, b, k, left, right int) api.Candidate {
	return api.Candidate{A: ref(a, j), B: ref(b, k), Left: left, Right: right}
}

// copyCost returns what the copy of a line by another one costs, by the words of the document.
func copyCost(t *testing.T, c api.Case, x, by api.Ref) int {
	t.Helper()
	n, e := copying.CopyLine(c.Contest.Layout, c.Logs[x.Log].Call, at(c, x).Sent, at(c, by))
	if e != api.OK {
		t.Fatal(c, x, by, e)
	}
	return n
}

// candidatesOf returns the candidates of a case, by the words of the document.
func candidatesOf(t *testing.T, c api.Case) []api.Candidate {
	t.Helper()
	s, e := readings.System(c)
	spans, f := clocks.Times(s)
	if e+f != api.OK {
		t.Fatal(c, e, f)
	}
	var l []api.Candidate
	for _, a := range linesOf(c) {
		for _, b := range linesOf(c) {
			if a.Log >= b.Log {
				continue
			}
			x := api.Candidate{A: a, B: b, Left: copyCost(t, c, b, a), Right: copyCost(t, c, a, b)}
			m, n := spans[a.Log][a.Line], spans[b.Log][b.Line]
			close := m.Lo <= n.Hi+c.Contest.Window && n.Lo <= m.Hi+c.Contest.Window
			struck := slices.Contains(c.Struck, a) || slices.Contains(c.Struck, b)
			if slices.Contains(c.Force, api.Duo{A: a, B: b}) || !struck && close && inBand(c, a, b) && x.Left <= c.Contest.Near && x.Right <= c.Contest.Near {
				l = append(l, x)
			}
		}
	}
	return l
}

// R22: lines that are a candidate, and lines that differ from them in one thing.
func TestCandidates(t *testing.T) {
	change := func(f func(x, y *api.Line, c *api.Case)) api.Case {
		c := pairing()
		f(&c.Logs[0].Lines[0], &c.Logs[1].Lines[0], &c)
		return c
	}
	first, second := near(0, 0, 1, 0, 0, 0), near(0, 1, 1, 1, 0, 0)
	both, one := []api.Candidate{first, second}, []api.Candidate{second}
	late := caseOf(log("A1A", qso(100, "B1B", 1, 1), qso(120, "B1B", 2, 2)), log("B1B", qso(113, "A1A", 1, 1), qso(119, "A1B", 2, 2)))
	lateApart := late
	lateApart.Forbid = []api.Duo{duo(0, 0, 1, 0)}
	with := func(left, right int) []api.Candidate { return []api.Candidate{near(0, 0, 1, 0, left, right), second} }
	for i, x := range []struct {
		c    api.Case
		want []api.Candidate
	}{
		{pairing(), both}, {caseOf(), nil}, {caseOf(log("A1A"), log("B1B", qso(100, "A1A", 1, 1))), nil},
		{change(func(x, y *api.Line, c *api.Case) { x.Khz = 3500 }), one}, {change(func(x, y *api.Line, c *api.Case) { x.Khz, y.Khz = 3500, 3800 }), both}, {change(func(x, y *api.Line, c *api.Case) { x.Khz, y.Khz = 2500, 2500 }), one}, {change(func(x, y *api.Line, c *api.Case) { x.Mode = api.Voice }), one}, {change(func(x, y *api.Line, c *api.Case) { x.Mode, y.Mode = api.Morse, api.Morse }), both},
		// Copies at a cost of just Near, and of more, by either of both.
		{change(func(x, y *api.Line, c *api.Case) { x.Call = "B1A" }), with(2, 0)}, {change(func(x, y *api.Line, c *api.Case) { x.Call = "B2A" }), with(4, 0)}, {change(func(x, y *api.Line, c *api.Case) { x.Call = "B2AA" }), one}, {change(func(x, y *api.Line, c *api.Case) { x.Call, x.Got.Serial = "B1A", 12 }), with(4, 0)}, {change(func(x, y *api.Line, c *api.Case) { x.Call, x.Got.Serial = "B1A", 22 }), one},
		{change(func(x, y *api.Line, c *api.Case) { y.Call = "A1B" }), with(0, 2)}, {change(func(x, y *api.Line, c *api.Case) { y.Call = "A2B" }), with(0, 4)}, {change(func(x, y *api.Line, c *api.Case) { y.Call = "AA2B" }), one}, {change(func(x, y *api.Line, c *api.Case) { y.Got.Report = 48 }), with(0, 4)}, {change(func(x, y *api.Line, c *api.Case) { y.Got.Report = 148 }), one},
		{change(func(x, y *api.Line, c *api.Case) { x.Call, y.Call = "B2A", "A2B" }), with(4, 4)}, {change(func(x, y *api.Line, c *api.Case) { c.Contest.Near = 0 }), both}, {change(func(x, y *api.Line, c *api.Case) { x.Call, c.Contest.Near = "B1A", 1 }), one},
		{change(func(x, y *api.Line, c *api.Case) { c.Contest.Near = api.MaxCost }), both},
		// Spans that come within the window of one another just so, with the clock and the window at their worst.
		{caseOf(log("A1A", qso(100, "B1A", 1, 1)), log("B1B", qso(113, "A1A", 1, 1))), []api.Candidate{near(0, 0, 1, 0, 2, 0)}}, {caseOf(log("A1A", qso(100, "B1A", 1, 1)), log("B1B", qso(114, "A1A", 1, 1))), nil}, {caseOf(log("A1A", qso(113, "B1A", 1, 1)), log("B1B", qso(100, "A1A", 1, 1))), []api.Candidate{near(0, 0, 1, 0, 2, 0)}}, {caseOf(log("A1A", qso(114, "B1A", 1, 1)), log("B1B", qso(100, "A1A", 1, 1))), nil},
		// A tie sets the clocks right: the second contact was too late for one.
		{late, []api.Candidate{first}}, {lateApart, []api.Candidate{first, near(0, 1, 1, 0, 2, 2), near(0, 1, 1, 1, 0, 2)}},
		// Struck lines; lines in a duo of Force with others; duos of Force, whatever they say; duos of Forbid.
		{altered(struck(ref(0, 0))), one}, {altered(struck(ref(1, 0))), one}, {altered(struck(ref(0, 0), ref(0, 1), ref(1, 0), ref(1, 1))), nil}, {altered(together(duo(0, 0, 1, 0))), both}, {altered(apart(duo(0, 0, 1, 0), duo(0, 0, 1, 1))), both},
		{altered(together(duo(0, 0, 1, 1))), []api.Candidate{first, near(0, 0, 1, 1, 2, 2), second}}, {altered(struck(ref(0, 1)), together(duo(0, 0, 1, 1))), []api.Candidate{first, near(0, 0, 1, 1, 2, 2)}},
		{altered(together(duo(0, 0, 1, 0)), func(c *api.Case) {
			c.Logs[0].Lines[0].Khz, c.Logs[0].Lines[0].Mode, c.Logs[0].Lines[0].Call, c.Contest.Near = 2500, api.Morse, "XYZ", 0
		}), []api.Candidate{near(0, 0, 1, 0, 4, 0), second}},
	} {
		l, e := readings.Candidates(x.c)
		if !slices.Equal(l, x.want) || e != api.OK {
			t.Error(i, l, e, "want", x.want)
		}
		if want := candidatesOf(t, x.c); !slices.Equal(l, want) {
			t.Error(i, l, "want", want)
		}
	}
}

// crossed returns two logs with n and m lines, all of which may be contacts with one another.
func crossed(n, m int) api.Case {
	return caseOf(log("A1A", slices.Repeat([]api.Line{qso(100, "B1B", 1, 1)}, n)...), log("B1B", slices.Repeat([]api.Line{qso(100, "A1A", 1, 1)}, m)...))
}

// R22 to R24: as many candidates as a problem has pairs, and more; problems that are large.
func TestManyCandidates(t *testing.T) {
	oneMore := crossed(80, 50)
	oneMore.Logs = append(oneMore.Logs, log("C1C", qso(500, "D1D", 1, 1)), log("D1D", qso(500, "C1C", 1, 1)))
	for _, x := range []struct {
		c       api.Case
		want    int
		e, line api.Errno
	}{
		{crossed(80, 50), api.MaxPairs, api.OK, api.ErrLimit}, {crossed(400, 10), api.MaxPairs, api.OK, api.ErrLimit}, {crossed(31, 129), api.MaxPairs - 1, api.OK, api.ErrLimit},
		{oneMore, 0, api.ErrLimit, api.ErrLimit}, {crossed(87, 46), 0, api.ErrLimit, api.ErrLimit}, {crossed(400, 400), 0, api.ErrLimit, api.ErrLimit}, {crossed(80, 51), 0, api.ErrLimit, api.ErrLimit}, {crossed(6, 6), 36, api.OK, api.OK}, {crossed(7, 7), 49, api.OK, api.ErrLimit},
	} {
		l, e := readings.Candidates(x.c)
		p, refs, f := readings.Compile(x.c)
		if len(l) != x.want || len(p.Pairs) != x.want || e != x.e || f != x.e || e != api.OK && len(p.Alone)+len(refs) > 0 || e == api.OK && len(refs) != len(linesOf(x.c)) {
			t.Error(x.want, len(l), e, len(p.Pairs), len(refs), f)
		}
		lines, e := readings.Lines(x.c)
		if e != x.line || (len(lines) == 0) != (e != api.OK) {
			t.Error(x.want, lines, e)
		}
	}
	// What is forbidden makes a large problem small, but leaves candidates.
	c := crossed(7, 7)
	for i := range 7 {
		c.Forbid = append(c.Forbid, duo(0, 0, 1, i))
	}
	if l, e := readings.Candidates(c); len(l) != 49 || e != api.OK {
		t.Error(len(l), e)
	}
	if l, e := readings.Lines(c); !sameLists(l, [][]int{{4, 3, 3, 3, 3, 3, 3}, {3, 3, 3, 3, 3, 3, 3}}) || e != api.OK {
		t.Error(l, e)
	}
}

// R23: problems and their nodes.
func TestCompile(t *testing.T) {
	c := caseOf(
		log("A1A", qso(100, "B1B", 1, 11), qso(110, "Z9Z", 2, 1), qso(200, "B1B", 3, 12), qso(300, "A1A", 4, 1)),
		log("B1B", qso(50, "C1C", 10, 9), qso(101, "A1B", 11, 1), qso(201, "A1A", 12, 2)),
		log("C1C"),
	)
	c.Struck = []api.Ref{ref(0, 1), ref(1, 0)}
	c.Force = []api.Duo{duo(0, 2, 1, 2)}
	c.Forbid = []api.Duo{duo(0, 0, 1, 1), duo(0, 0, 1, 2), duo(0, 3, 1, 1)}
	want := api.Problem{Alone: []int{6, 6, 6, 3, 6}, Pairs: []api.Pair{join(0, 3, 2), join(1, 4, 2)}, Force: []int{1}, Forbid: []int{0}}
	refs := []api.Ref{ref(0, 0), ref(0, 2), ref(0, 3), ref(1, 1), ref(1, 2)}
	if p, l, e := readings.Compile(c); !same(p, want) || !slices.Equal(l, refs) || e != api.OK {
		t.Error(p, l, e)
	}
	if p, l, e := readings.Compile(caseOf()); !same(p, api.Problem{}) || len(l) > 0 || e != api.OK {
		t.Error(p, l, e)
	}
	c.Struck = linesOf(c)
	c.Force, c.Forbid = nil, nil
	if p, l, e := readings.Compile(c); !same(p, api.Problem{}) || len(l) > 0 || e != api.OK {
		t.Error(p, l, e)
	}
}

// compiled returns the problem of a case and the candidates of its pairs, by the words of the document.
func compiled(t *testing.T, c api.Case) (api.Problem, []api.Ref, []api.Candidate) {
	t.Helper()
	var p api.Problem
	var refs []api.Ref
	for _, r := range linesOf(c) {
		if slices.Contains(c.Struck, r) {
			continue
		}
		refs = append(refs, r)
		cost := c.Contest.Stranger
		if hasLog(c, at(c, r).Call) {
			cost = c.Contest.Lost
		}
		p.Alone = append(p.Alone, cost)
	}
	l := candidatesOf(t, c)
	for i, x := range l {
		p.Pairs = append(p.Pairs, join(slices.Index(refs, x.A), slices.Index(refs, x.B), min(x.Left+x.Right, api.MaxCost)))
		if slices.Contains(c.Force, api.Duo{A: x.A, B: x.B}) {
			p.Force = append(p.Force, i)
		}
		if slices.Contains(c.Forbid, api.Duo{A: x.A, B: x.B}) {
			p.Forbid = append(p.Forbid, i)
		}
	}
	return p, refs, l
}

// hasLog reports whether a call is that of a log of a case.
func hasLog(c api.Case, call string) bool {
	return slices.ContainsFunc(c.Logs, func(l api.Log) bool { return l.Call == call })
}

// statusesOf returns the statuses of the lines of a case, by the words of the document.
func statusesOf(t *testing.T, c api.Case) [][]int {
	t.Helper()
	p, _, candidates := compiled(t, c)
	statuses, e := readings.Statuses(p)
	if e != api.OK {
		t.Fatal(c, p, e)
	}
	var all [][]int
	for i, l := range c.Logs {
		all = append(all, nil)
		for j := range l.Lines {
			all[i] = append(all[i], statusOfLine(c, ref(i, j), candidates, statuses))
		}
	}
	return all
}

// statusOfLine returns the status of a line, given the candidates of its case and their statuses.
func statusOfLine(c api.Case, r api.Ref, candidates []api.Candidate, statuses []int) int {
	if slices.Contains(c.Struck, r) {
		return api.StruckOut
	}
	possible := false
	for i, x := range candidates {
		if x.A != r && x.B != r {
			continue
		}
		own := x.Left
		if x.B == r {
			own = x.Right
		}
		switch {
		case statuses[i] == api.Certain && own <= c.Contest.Pardon:
			return api.Credited
		case statuses[i] == api.Certain:
			return api.Busted
		}
		possible = possible || statuses[i] == api.Possible
	}
	switch {
	case possible:
		return api.Open
	case hasLog(c, at(c, r).Call):
		return api.Refused
	}
	return api.Unchecked
}

// R24: each status, with copies at a cost of just Pardon and of more.
func TestLines(t *testing.T) {
	const credited, busted, open, refused, unchecked, out = api.Credited, api.Busted, api.Open, api.Refused, api.Unchecked, api.StruckOut
	change := func(f func(x, y *api.Line, c *api.Case)) api.Case {
		c := pairing()
		f(&c.Logs[0].Lines[0], &c.Logs[1].Lines[0], &c)
		return c
	}
	for i, x := range []struct {
		c    api.Case
		want [][]int
	}{
		{pairing(), [][]int{{credited, credited}, {credited, credited}}}, {caseOf(), nil}, {caseOf(log("A1A"), log("B1B", qso(1, "A1A", 1, 1))), [][]int{nil, {refused}}},
		{change(func(x, y *api.Line, c *api.Case) { x.Call = "B1A" }), [][]int{{credited, credited}, {credited, credited}}}, {change(func(x, y *api.Line, c *api.Case) { x.Call, c.Contest.Pardon = "B1A", 1 }), [][]int{{busted, credited}, {credited, credited}}}, {change(func(x, y *api.Line, c *api.Case) { x.Call = "B2A" }), [][]int{{busted, credited}, {credited, credited}}}, {change(func(x, y *api.Line, c *api.Case) { y.Got.Serial = 2 }), [][]int{{credited, credited}, {credited, credited}}},
		{change(func(x, y *api.Line, c *api.Case) { y.Got.Serial, c.Contest.Pardon = 2, 1 }), [][]int{{credited, credited}, {busted, credited}}}, {change(func(x, y *api.Line, c *api.Case) { y.Got.Serial = 22 }), [][]int{{credited, credited}, {busted, credited}}}, {change(func(x, y *api.Line, c *api.Case) { x.Got.Serial, y.Got.Serial = 33, 22 }), [][]int{{busted, credited}, {busted, credited}}},
		// A call that is no log's costs less alone: then no pair is cheaper, or it is as cheap.
		{change(func(x, y *api.Line, c *api.Case) { x.Call, y.Call = "B2A", "A2B" }), [][]int{{unchecked, credited}, {unchecked, credited}}},
		{change(func(x, y *api.Line, c *api.Case) { x.Call, y.Call, c.Contest.Stranger = "B2A", "A2B", 4 }), [][]int{{open, credited}, {open, credited}}},
		{change(func(x, y *api.Line, c *api.Case) { x.Call, y.Call, c.Contest.Stranger = "B2A", "A2B", 5 }), [][]int{{busted, credited}, {busted, credited}}},
		{change(func(x, y *api.Line, c *api.Case) { c.Contest.Lost = 0 }), [][]int{{open, open}, {open, open}}},
		{altered(struck(ref(0, 0))), [][]int{{out, credited}, {refused, credited}}}, {altered(struck(ref(0, 1), ref(1, 0))), [][]int{{refused, out}, {out, refused}}}, {altered(apart(duo(0, 0, 1, 0))), [][]int{{refused, credited}, {refused, credited}}}, {altered(together(duo(0, 0, 1, 0))), [][]int{{credited, credited}, {credited, credited}}},
		{altered(together(duo(0, 0, 1, 1))), [][]int{{credited, refused}, {refused, credited}}}, {altered(together(duo(0, 0, 1, 1)), func(c *api.Case) { c.Contest.Pardon = 1 }), [][]int{{busted, refused}, {refused, busted}}}, {altered(together(duo(0, 0, 1, 1), duo(0, 1, 1, 0))), [][]int{{credited, credited}, {credited, credited}}},
		{altered(together(duo(0, 0, 1, 0)), func(c *api.Case) { c.Logs[0].Lines[0].Call, c.Contest.Near = "XX9XX", 0 }), [][]int{{busted, credited}, {credited, credited}}},
		{crossed(1, 2), [][]int{{open}, {open, open}}}, {crossed(2, 2), [][]int{{open, open}, {open, open}}},
		{caseOf(log("A1A", qso(100, "B1B", 1, 1), qso(200, "Z9Z", 2, 5), qso(300, "A1A", 3, 5)), log("B1B", qso(100, "A1A", 1, 1), qso(200, "A1C", 2, 5))), [][]int{{credited, unchecked, refused}, {credited, unchecked}}},
	} {
		l, e := readings.Lines(x.c)
		if !sameLists(l, x.want) || e != api.OK {
			t.Error(i, l, e, "want", x.want)
		}
		if want := statusesOf(t, x.c); !sameLists(x.want, want) {
			t.Error(i, x.want, want)
		}
	}
}

// R22 to R24, P5.8, P0.3, P0.4, P0.5: random cases, held against the words of the document.
func TestRandomCases(t *testing.T) {
	r := rand.New(rand.NewPCG(5, 24))
	seen := [7]int{}
	for range 700 {
		c := someCase(r)
		kept := copyOfCase(c)
		p, refs, candidates := compiled(t, c)
		l, e := readings.Candidates(c)
		q, nodes, f := readings.Compile(c)
		if !slices.Equal(l, candidates) || !same(p, q) || !slices.Equal(nodes, refs) || e+f != api.OK || !readings.Valid(q) {
			t.Fatal(c, l, e, "want", candidates, q, nodes, f, "want", p, refs)
		}
		lines, e := readings.Lines(c)
		if e == api.ErrLimit {
			continue
		}
		if want := statusesOf(t, c); !sameLists(lines, want) || e != api.OK {
			t.Fatal(c, lines, e, "want", want)
		}
		for _, l := range lines {
			for _, status := range l {
				seen[status]++
			}
		}
		holdCase(t, c, p, refs, lines)
		holdCopies(t, c, candidates)
		if !sameCase(c, kept) {
			t.Fatal(c, kept)
		}
	}
	if slices.Min(seen[1:]) < 80 {
		t.Error(seen)
	}
}

// copyOfCase returns a case with memory of its own.
func copyOfCase(c api.Case) api.Case {
	c.Logs, c.Struck, c.Force, c.Forbid = slices.Clone(c.Logs), slices.Clone(c.Struck), slices.Clone(c.Force), slices.Clone(c.Forbid)
	for i, l := range c.Logs {
		c.Logs[i].Jumps, c.Logs[i].Lines = slices.Clone(l.Jumps), slices.Clone(l.Lines)
	}
	return c
}

// sameCase reports whether two cases have equal logs and decisions.
func sameCase(a, b api.Case) bool {
	return slices.EqualFunc(a.Logs, b.Logs, logs.Same) && slices.Equal(a.Struck, b.Struck) && slices.Equal(a.Force, b.Force) && slices.Equal(a.Forbid, b.Forbid)
}

// holdCase holds the statuses of lines against the pairs of their nodes: what is told of a contact comes with least readings and a proof.
func holdCase(t *testing.T, c api.Case, p api.Problem, refs []api.Ref, lines [][]int) {
	t.Helper()
	proof, cost, e := readings.Prove(p)
	if f, _ := readings.CheckProof(p, cost, proof); e+f != api.OK {
		t.Fatal(c, p, cost, e, f)
	}
	statuses, e := readings.Statuses(p)
	certain := map[int]int{}
	for i, status := range statuses {
		with, f := readings.With(p, i)
		without, g := readings.Without(p, i)
		n, h := readings.Cost(p, with)
		m, k := readings.Cost(p, without)
		if (status == api.Denied) != (f == api.ErrNone) || (status == api.Certain) != (g == api.ErrNone) || f == api.OK && (n != cost || h != api.OK || !slices.Contains(with, i)) || g == api.OK && (m != cost || k != api.OK || slices.Contains(without, i)) {
			t.Fatal(c, p, i, status, with, f, without, g)
		}
		if status == api.Certain {
			certain[p.Pairs[i].A]++
			certain[p.Pairs[i].B]++
		}
	}
	if e != api.OK {
		t.Fatal(c, p, e)
	}
	for v, r := range refs {
		status := lines[r.Log][r.Line]
		want := 0
		if status == api.Credited || status == api.Busted {
			want = 1
		}
		if certain[v] != want || status == api.StruckOut {
			t.Fatal(c, p, r, status, certain[v])
		}
	}
}

// holdCopies holds the candidates of a case against alignments and tables of their calls, and the spans of their lines against paths.
func holdCopies(t *testing.T, c api.Case, candidates []api.Candidate) {
	t.Helper()
	s, e := readings.System(c)
	spans, f := clocks.Times(s)
	if e+f != api.OK {
		t.Fatal(c, e, f)
	}
	for _, x := range candidates {
		for _, y := range [...][2]api.Ref{{x.B, x.A}, {x.A, x.B}} {
			line, call := at(c, y[1]), c.Logs[y[0].Log].Call
			table, e := copying.Table(line.Mode, call, line.Call)
			low, f := copying.CheckTable(line.Mode, call, line.Call, table)
			steps, g := copying.Align(line.Mode, call, line.Call)
			high, h := copying.CheckAlign(line.Mode, call, line.Call, steps)
			got, k := copying.CopyExchange(c.Contest.Layout, line.Mode, at(c, y[0]).Sent, line.Got)
			want := x.Left
			if y[0] == x.A {
				want = x.Right
			}
			if low != high || low+got != want || e+f+g+h+k != api.OK {
				t.Fatal(c, x, low, high, got)
			}
		}
		for _, r := range []api.Ref{x.A, x.B} {
			early, e := clocks.Path(s, r, false)
			late, f := clocks.Path(s, r, true)
			lo, g := clocks.ValidPath(s, r, false, early)
			hi, h := clocks.ValidPath(s, r, true, late)
			if (api.Span{Lo: lo, Hi: hi}) != spans[r.Log][r.Line] || e+f+g+h != api.OK {
				t.Fatal(c, r, lo, hi, spans)
			}
		}
	}
}

// P5.9: a log whose lines are no candidates with others changes nothing, wherever it comes; and struck lines are in no candidate.
func TestAddedLog(t *testing.T) {
	r := rand.New(rand.NewPCG(5, 99))
	for range 300 {
		c := someCase(r)
		before, e := readings.Lines(c)
		l, f := readings.Candidates(c)
		if e == api.ErrLimit {
			continue
		}
		for _, x := range l {
			if slices.Contains(c.Struck, x.A) || slices.Contains(c.Struck, x.B) {
				t.Fatal(c, x)
			}
		}
		// The lines of the new log are in a mode of their own.
		one := log([]string{"A0A", "B2B", "Z9Y"}[r.IntN(3)], qso(2, "A1A", 1, 1), qso(3, "B1B", 1, 1), qso(4, "Q1Q", 1, 1))
		for i := range one.Lines {
			one.Lines[i].Mode = api.Morse
			if !c.Contest.Layout.Serial {
				one.Lines[i].Sent.Serial, one.Lines[i].Got.Serial = 0, 0
			}
		}
		i := slices.IndexFunc(c.Logs, func(x api.Log) bool { return x.Call > one.Call })
		if i < 0 {
			i = len(c.Logs)
		}
		moved := func(r api.Ref) api.Ref {
			if r.Log >= i {
				r.Log++
			}
			return r
		}
		d := copyOfCase(c)
		d.Logs = slices.Insert(d.Logs, i, one)
		for k, x := range d.Struck {
			d.Struck[k] = moved(x)
		}
		for _, duos := range [][]api.Duo{d.Force, d.Forbid} {
			for k, x := range duos {
				duos[k] = api.Duo{A: moved(x.A), B: moved(x.B)}
			}
		}
		after, g := readings.Lines(d)
		if e+f+g != api.OK || len(after) != len(before)+1 || !sameLists(slices.Delete(slices.Clone(after), i, i+1), before) {
			t.Fatal(c, d, before, e, after, g)
		}
	}
}
