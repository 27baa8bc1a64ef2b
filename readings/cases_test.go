package readings_test

import (
	"slices"
	"strconv"
	"testing"

	"pileup/api"
	"pileup/readings"
)

// ref, duo and tie are short ways to write lines and two of them.
func ref(log, line int) api.Ref        { return api.Ref{Log: log, Line: line} }
func duo(a, j, b, k int) api.Duo       { return api.Duo{A: ref(a, j), B: ref(b, k)} }
func tie(a, j, b, k int) api.Tie       { return api.Tie{A: ref(a, j), B: ref(b, k)} }
func exchange(serial int) api.Exchange { return api.Exchange{Report: 59, Serial: serial} }

// contest returns a contest in which Data costs 2 a character.
func contest() api.Contest {
	return api.Contest{
		Bands:  []api.Band{{ID: 7, Lo: 1800, Hi: 2000}, {ID: 9, Lo: 3500, Hi: 3800}},
		Table:  []api.Prefix{{Text: "A", Country: 1, Zone: 1, Continent: 1, From: 0, To: 99}},
		Layout: api.Layout{Report: true, Serial: true},
		Day:    10, Length: 1440,
		Slip: 5, Drift: 10, Window: 3,
		Near: 4, Pardon: 2,
		Lost: 6, Stranger: 3,
	}
}

// qso returns a line in Data at 1900 kHz.
func qso(minute int, call string, sent, got int) api.Line {
	return api.Line{Khz: 1900, Mode: api.Data, Minute: minute, Call: call, Sent: exchange(sent), Got: exchange(got)}
}

// log returns a log with lines that are numbered from 1 on.
func log(call string, lines ...api.Line) api.Log {
	l := api.Log{Call: call, Category: 1, Power: 100, Lines: slices.Clone(lines)}
	for i := range l.Lines {
		l.Lines[i].Num = i + 1
	}
	return l
}

// caseOf returns a case of logs.
func caseOf(l ...api.Log) api.Case { return api.Case{Contest: contest(), Logs: l} }

// pairing returns a case of two logs with two contacts.
func pairing() api.Case {
	return caseOf(
		log("A1A", qso(100, "B1B", 1, 11), qso(200, "B1B", 2, 12)),
		log("B1B", qso(101, "A1A", 11, 1), qso(201, "A1A", 12, 2)),
	)
}

// altered returns the case of two logs after changes.
func altered(changes ...func(*api.Case)) api.Case {
	c := pairing()
	for _, f := range changes {
		f(&c)
	}
	return c
}

// struck, together and apart are decisions on a case.
func struck(l ...api.Ref) func(*api.Case)   { return func(c *api.Case) { c.Struck = l } }
func together(l ...api.Duo) func(*api.Case) { return func(c *api.Case) { c.Force = l } }
func apart(l ...api.Duo) func(*api.Case)    { return func(c *api.Case) { c.Forbid = l } }

// R18: contests at the limits, and beyond them.
func TestCheckContest(t *testing.T) {
	change := func(f func(*api.Contest)) api.Contest {
		c := contest()
		f(&c)
		return c
	}
	for i, x := range []struct {
		c    api.Contest
		want api.Errno
	}{
		{contest(), api.OK}, {api.Contest{Length: 1}, api.OK}, {api.Contest{}, api.ErrArg},
		{change(func(c *api.Contest) { c.Bands[1].Lo = 2000 }), api.ErrBands}, {change(func(c *api.Contest) { c.Bands[0].ID = 0; c.Table[0].Zone = 0; c.Length = 0 }), api.ErrBands}, {change(func(c *api.Contest) { c.Bands = make([]api.Band, api.MaxBands+1) }), api.ErrBands},
		{change(func(c *api.Contest) { c.Table[0].Zone = 0; c.Day = -1 }), api.ErrTable}, {change(func(c *api.Contest) { c.Table = append(c.Table, c.Table[0]) }), api.ErrTable},
		{change(func(c *api.Contest) { c.Day = 0 }), api.OK}, {change(func(c *api.Contest) { c.Day = -1 }), api.ErrArg}, {change(func(c *api.Contest) { c.Day = api.MaxDay - 20 }), api.OK}, {change(func(c *api.Contest) { c.Day = api.MaxDay - 19 }), api.ErrArg}, {change(func(c *api.Contest) { c.Day = most }), api.ErrArg}, {change(func(c *api.Contest) { c.Day = least }), api.ErrArg},
		{change(func(c *api.Contest) { c.Length = 0 }), api.ErrArg}, {change(func(c *api.Contest) { c.Length = 1 }), api.OK}, {change(func(c *api.Contest) { c.Length = api.MaxMinute }), api.OK}, {change(func(c *api.Contest) { c.Length = api.MaxMinute + 1 }), api.ErrArg},
		{change(func(c *api.Contest) { c.Slip = -1 }), api.ErrArg}, {change(func(c *api.Contest) { c.Slip = api.MaxSlip }), api.OK}, {change(func(c *api.Contest) { c.Slip = api.MaxSlip + 1 }), api.ErrArg},
		{change(func(c *api.Contest) { c.Drift = -1 }), api.ErrArg}, {change(func(c *api.Contest) { c.Drift = api.MaxDrift }), api.OK}, {change(func(c *api.Contest) { c.Drift = api.MaxDrift + 1 }), api.ErrArg},
		{change(func(c *api.Contest) { c.Window = -1 }), api.ErrArg}, {change(func(c *api.Contest) { c.Window = api.MaxWindow }), api.OK}, {change(func(c *api.Contest) { c.Window = api.MaxWindow + 1 }), api.ErrArg},
	} {
		if e := readings.CheckContest(x.c); e != x.want {
			t.Error(i, e, "want", x.want)
		}
	}
	for i, field := range []func(*api.Contest) *int{
		func(c *api.Contest) *int { return &c.Near }, func(c *api.Contest) *int { return &c.Pardon }, func(c *api.Contest) *int { return &c.Lost }, func(c *api.Contest) *int { return &c.Stranger },
	} {
		for n, want := range map[int]api.Errno{0: api.OK, api.MaxCost: api.OK, -1: api.ErrArg, api.MaxCost + 1: api.ErrArg, least: api.ErrArg, most: api.ErrArg} {
			if e := readings.CheckContest(change(func(c *api.Contest) { *field(c) = n })); e != want {
				t.Error(i, n, e, "want", want)
			}
		}
	}
}

// A slip is a case that is not valid, and what CheckCase returns for it.
type slip struct {
	c api.Case
	e api.Errno
	n int
}

// manyLogs returns n logs with so many lines each.
func manyLogs(n, lines int) []api.Log {
	var l []api.Log
	for i := range n {
		var all []api.Line
		for k := range lines {
			all = append(all, qso(k, "Z9Z", k+1, 1))
		}
		l = append(l, log("A"+strconv.Itoa(10+i)+"A", all...))
	}
	return l
}

// slips returns cases that are not valid.
func slips() []slip {
	logs := func(l ...api.Log) func(*api.Case) { return func(c *api.Case) { c.Logs = l } }
	a, b := pairing().Logs[0], pairing().Logs[1]
	zone := func(c *api.Case) { c.Contest.Layout.Zone = true }
	bad := api.ErrCase
	long := log("C1C", make([]api.Line, api.MaxLines+1)...)
	return []slip{
		{altered(func(c *api.Case) { c.Contest.Bands[0].Lo = 0 }, logs(manyLogs(65, 0)...), struck(ref(9, 9))), api.ErrBands, 0},
		{altered(func(c *api.Case) { c.Contest.Table[0].Country = 0 }, logs(manyLogs(65, 0)...)), api.ErrTable, 0},
		{altered(func(c *api.Case) { c.Contest.Near = -1 }, logs(manyLogs(65, 0)...)), api.ErrArg, 0},
		{altered(logs(manyLogs(65, 0)...)), api.ErrLimit, 0}, {altered(logs(append(manyLogs(5, 399), a, b, log("C1C", a.Lines...))...)), api.ErrLimit, 0}, {altered(logs(b, a, long, long, long, long, long)), api.ErrLimit, 0},
		{altered(logs(slices.Repeat([]api.Log{{}}, 65)...), struck(ref(9, 9))), api.ErrLimit, 0},
		{altered(logs(a, b, long)), api.ErrLog, 2}, {altered(logs(b, a)), api.ErrLog, 1}, {altered(logs(a, a)), api.ErrLog, 1}, {altered(logs(a, b, log("A1AA"))), api.ErrLog, 2}, {altered(logs(log("A"), b)), api.ErrLog, 0}, {altered(logs(api.Log{})), api.ErrLog, 0}, {altered(zone), api.ErrLog, 0}, {altered(zone, logs(log("A1A"), b)), api.ErrLog, 1},
		{altered(logs(a, log("B1B", qso(5, "A1A", 1, 1), qso(4, "A1A", 1, 1)))), api.ErrLog, 1}, {altered(logs(a, log("B1B", qso(5, "a1a", 1, 1)))), api.ErrLog, 1}, {altered(logs(b, a), struck(ref(9, 9)), together(duo(0, 0, 0, 0))), api.ErrLog, 1},
		{altered(struck(ref(0, 2))), bad, 1}, {altered(struck(ref(2, 0))), bad, 1}, {altered(struck(ref(-1, 0))), bad, 1}, {altered(struck(ref(0, -1))), bad, 1}, {altered(struck(ref(0, 0), ref(0, 0))), bad, 1}, {altered(struck(ref(0, 1), ref(0, 0))), bad, 1}, {altered(struck(ref(1, 0), ref(0, 1))), bad, 1}, {altered(struck(ref(most, least))), bad, 1},
		{altered(struck(ref(0, 2)), together(duo(0, 2, 1, 0)), apart(duo(0, 2, 1, 0))), bad, 1},
		{altered(together(duo(0, 2, 1, 0))), bad, 2}, {altered(together(duo(0, 0, 1, 2))), bad, 2}, {altered(together(duo(0, 0, 2, 0))), bad, 2}, {altered(together(duo(-1, 0, 1, 0))), bad, 2}, {altered(together(duo(0, 0, 1, -1))), bad, 2}, {altered(together(duo(least, most, most, least))), bad, 2},
		{altered(together(duo(1, 0, 0, 0))), bad, 2}, {altered(together(duo(0, 0, 0, 1))), bad, 2}, {altered(together(duo(0, 0, 0, 0))), bad, 2}, {altered(struck(ref(0, 0)), together(duo(0, 0, 1, 0))), bad, 2}, {altered(struck(ref(1, 0)), together(duo(0, 0, 1, 0))), bad, 2},
		{altered(together(duo(0, 0, 1, 0), duo(0, 0, 1, 0))), bad, 2}, {altered(together(duo(0, 0, 1, 0), duo(0, 0, 1, 1))), bad, 2}, {altered(together(duo(0, 0, 1, 0), duo(0, 1, 1, 0))), bad, 2}, {altered(together(duo(0, 1, 1, 0), duo(0, 0, 1, 1))), bad, 2},
		{altered(together(duo(0, 0, 1, 0), duo(0, 0, 1, 1)), apart(duo(1, 0, 0, 0))), bad, 2},
		{altered(apart(duo(0, 2, 1, 0))), bad, 3}, {altered(apart(duo(1, 0, 0, 0))), bad, 3}, {altered(apart(duo(0, 0, 0, 1))), bad, 3}, {altered(apart(duo(0, 0, 1, 0), duo(0, 0, 1, 0))), bad, 3}, {altered(apart(duo(0, 0, 1, 1), duo(0, 0, 1, 0))), bad, 3}, {altered(apart(duo(0, 1, 1, 0), duo(0, 0, 1, 0))), bad, 3}, {altered(struck(ref(1, 1)), apart(duo(0, 0, 1, 1))), bad, 3},
		{altered(together(duo(0, 0, 1, 0)), apart(duo(0, 0, 1, 0))), bad, 3}, {altered(together(duo(0, 0, 1, 1), duo(0, 1, 1, 0)), apart(duo(0, 0, 1, 0), duo(0, 1, 1, 0))), bad, 3},
	}
}

// R19: what is wrong, in its order; cases at the limits.
func TestCheckCase(t *testing.T) {
	for i, x := range slips() {
		if e, n := readings.CheckCase(x.c); e != x.e || n != x.n {
			t.Error(i, e, n, "want", x.e, x.n)
		}
	}
	for i, c := range []api.Case{
		pairing(), caseOf(), {Contest: api.Contest{Length: 1}}, caseOf(manyLogs(64, 31)...), caseOf(manyLogs(5, 400)...), caseOf(log("A1A"), log("A1AA"), log("B1B")),
		altered(struck(ref(0, 0), ref(0, 1), ref(1, 0), ref(1, 1))), altered(struck(ref(1, 1)), together(duo(0, 1, 1, 0)), apart(duo(0, 0, 1, 0))),
		altered(together(duo(0, 0, 1, 1), duo(0, 1, 1, 0)), apart(duo(0, 0, 1, 0), duo(0, 1, 1, 1))), altered(apart(duo(0, 0, 1, 0), duo(0, 0, 1, 1), duo(0, 1, 1, 0), duo(0, 1, 1, 1))),
	} {
		if e, n := readings.CheckCase(c); e != api.OK || n != 0 {
			t.Error(i, e, n)
		}
	}
}

// Errors: the error of CheckCase comes first, for all functions with a case.
func TestSlips(t *testing.T) {
	for i, x := range slips() {
		ties, e := readings.Ties(x.c)
		system, f := readings.System(x.c)
		candidates, g := readings.Candidates(x.c)
		p, nodes, h := readings.Compile(x.c)
		lines, k := readings.Lines(x.c)
		for _, e := range []api.Errno{e, f, g, h, k} {
			if e != x.e {
				t.Error(i, e, "want", x.e)
			}
		}
		if len(ties)+len(candidates)+len(nodes)+len(lines)+len(system.Tracks)+len(system.Ties)+system.Window > 0 || !same(p, api.Problem{}) {
			t.Error(i, ties, system, candidates, p, nodes, lines)
		}
	}
}
