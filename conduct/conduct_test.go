package conduct_test

import (
	"slices"
	"testing"

	"pileup/api"
	"pileup/clocks"
	"pileup/conduct"
	"pileup/readings"
)

// N1: rules at both ends of what is valid, and one beyond.
func TestValid(t *testing.T) {
	least := api.Conduct{Gap: 0, Hour: 1, Changes: 0, Minutes: 0, Rest: 1, Share: 0, Power: slices.Repeat([]int{1}, 9)}
	most := api.Conduct{Gap: 20000, Hour: 20000, Changes: 400, Minutes: 20000, Rest: 20000, Share: 100, Power: slices.Repeat([]int{9999}, 9)}
	for i, k := range []api.Conduct{least, most, ruling()} {
		if !conduct.Valid(k) {
			t.Error(i, k)
		}
	}
	for i := range 6 {
		for _, ends := range []api.Conduct{least, most} {
			step := 1
			if ends.Gap == 0 {
				step = -1
			}
			k := ends
			*[]*int{&k.Gap, &k.Hour, &k.Changes, &k.Minutes, &k.Rest, &k.Share}[i] += step
			if conduct.Valid(k) {
				t.Error(i, k)
			}
		}
	}
	for i := range 9 {
		for _, n := range []int{1, 9999} {
			k := ruling()
			k.Power[i] = n
			if !conduct.Valid(k) {
				t.Error(k)
			}
		}
		for _, n := range []int{0, 10000, -1, -1 << 63, 1<<63 - 1} {
			k := ruling()
			k.Power[i] = n
			if conduct.Valid(k) {
				t.Error(k)
			}
		}
	}
	for i, k := range []api.Conduct{
		{}, ruled(func(k *api.Conduct) { k.Power = nil }), ruled(func(k *api.Conduct) { k.Power = k.Power[1:] }), ruled(func(k *api.Conduct) { k.Power = append(k.Power, 100) }),
		ruled(func(k *api.Conduct) { k.Gap = -1 << 63 }), ruled(func(k *api.Conduct) { k.Hour = 1<<63 - 1 }), ruled(func(k *api.Conduct) { k.Share = -1 << 63 }), ruled(func(k *api.Conduct) { k.Changes = 1<<63 - 1 }),
	} {
		if conduct.Valid(k) {
			t.Error(i, k)
		}
	}
}

// The examples.
func TestExamples(t *testing.T) {
	c, k := example(), ruling()
	for _, x := range []struct {
		line int
		want api.Span
	}{{1, api.Span{Lo: 0, Hi: 2}}, {3, api.Span{Lo: 1, Hi: 7}}} {
		if delay, e := conduct.Sure(c, 0, 0, x.line); delay != x.want || e != api.OK {
			t.Error(x.line, delay, e)
		}
	}
	finding := func(kind int, lines ...int) api.Finding { return api.Finding{Kind: kind, Lines: lines} }
	signals := []api.Finding{finding(api.BreachSignals, 0, 1), finding(api.BreachSignals, 2, 3)}
	if l, e := conduct.Signals(c, k, 0); !sameFindings(l, signals) || e != api.OK {
		t.Error(l, e)
	}
	changes := finding(api.BreachChanges, 0, 1, 2, 3)
	for _, x := range []struct {
		lines []int
		want  int
	}{{[]int{0, 3}, 1}, {[]int{3, 4, 5}, 3}, {[]int{0, 1, 2, 3}, 1}} {
		if n, e := conduct.OnAir(c, k, 0, x.lines); n != x.want || e != api.OK {
			t.Error(x.lines, n, e)
		}
	}
	if f, e := conduct.Minutes(c, k, 0); !sameFinding(f, api.Finding{}) || e != api.ErrNone {
		t.Error(f, e)
	}
	want := append(signals, changes, finding(api.BreachSerial, 2, 3), finding(api.BreachPower))
	if l, e := conduct.Find(c, k, 0); !sameFindings(l, want) || e != api.OK {
		t.Error(l, e)
	}
	if l, e := conduct.All(c, k); !sameFindings(l, want) || e != api.OK {
		t.Error(l, e)
	}
	if needed, e := conduct.Needed(c, k, changes); !needed || e != api.OK {
		t.Error(needed, e)
	}
	k.Changes = 1
	if needed, e := conduct.Needed(c, k, changes); needed || e != api.OK {
		t.Error(needed, e)
	}
	if e := conduct.Check(c, k, changes); e != api.OK {
		t.Error(e)
	}
}

// N2: struck lines are no own lines; logs without lines.
func TestOwn(t *testing.T) {
	c := caseOf(log("A1A", qso(1, low, 1), qso(2, low, 2), qso(3, low, 3)), log("B1B", qso(1, low, 1), qso(1, low, 2)), log("C1C"))
	c.Struck = []api.Ref{ref(0, 1), ref(1, 0), ref(1, 1)}
	for i, want := range [][]int{{0, 2}, nil, nil} {
		if l, e := conduct.Own(c, i); !slices.Equal(l, want) || e != api.OK {
			t.Error(i, l, e)
		}
	}
	c.Struck = nil
	for i, want := range [][]int{{0, 1, 2}, {0, 1}, nil} {
		if l, e := conduct.Own(c, i); !slices.Equal(l, want) || e != api.OK {
			t.Error(i, l, e)
		}
	}
}

// tied returns a case in which contacts with K1K, whose clock does not drift, narrow the delays of A1A.
func tied() api.Case {
	c := caseOf(
		log("A1A", with("K1K", 10, 1, 1), qso(20, middle, 2), qso(30, high, 3), with("K1K", 40, 4, 2)),
		log("K1K", with("A1A", 10, 1, 1), with("A1A", 40, 2, 4)),
	)
	c.Contest.Drift, c.Contest.Window = 100, 0
	return c
}

// N3: delays in any order, of a line behind itself, of struck lines, beyond jumps, and narrowed by ties.
func TestSure(t *testing.T) {
	jumped := example()
	jumped.Logs[0].Jumps = []int{61}
	apart := tied()
	apart.Forbid = []api.Duo{duo(0, 0, 1, 0)}
	forced := tied()
	forced.Logs[1].Lines[0].Minute = 14
	forced.Force = []api.Duo{duo(0, 0, 1, 0)}
	for i, x := range []struct {
		c           api.Case
		line, other int
		want        api.Span
	}{
		{example(), 0, 0, api.Span{}}, {example(), 5, 5, api.Span{}}, {example(), 1, 0, api.Span{Lo: -2, Hi: 0}}, {example(), 3, 0, api.Span{Lo: -7, Hi: -1}}, {example(), 0, 5, api.Span{Lo: 39, Hi: 49}}, {example(), 5, 0, api.Span{Lo: -49, Hi: -39}},
		{struck(example(), 1, 2), 0, 3, api.Span{Lo: 1, Hi: 7}}, {struck(example(), 0, 3), 0, 3, api.Span{Lo: 1, Hi: 7}}, {struck(example(), 0), 0, 0, api.Span{}},
		{jumped, 0, 1, api.Span{Lo: 0, Hi: 11}}, {jumped, 1, 2, api.Span{Lo: 1, Hi: 3}}, {jumped, 0, 2, api.Span{Lo: 1, Hi: 13}},
		{tied(), 0, 3, api.Span{Lo: 26, Hi: 34}}, {tied(), 0, 1, api.Span{Lo: 8, Hi: 12}}, {tied(), 3, 0, api.Span{Lo: -34, Hi: -26}}, {apart, 0, 3, api.Span{Lo: 24, Hi: 36}},
		{forced, 0, 3, api.Span{Lo: 24, Hi: 30}}, {shown(5, 9), 0, 1, api.Span{Lo: 4, Hi: 4}},
	} {
		delay, e := conduct.Sure(x.c, 0, x.line, x.other)
		s, f := readings.System(x.c)
		want, g := clocks.Relation(s, ref(0, x.line), ref(0, x.other))
		if delay != x.want || want != x.want || e+f+g != api.OK {
			t.Error(i, delay, e, "want", x.want, want)
		}
	}
}

// N12: the findings of all logs, one log after the other; none without logs, and of logs without lines but for their power.
func TestAll(t *testing.T) {
	c := caseOf(log("A1A"), log("B1B", example().Logs[0].Lines...), log("C1C", qso(1, low, 2), qso(9, low, 1)))
	c.Logs[0].Power = 101
	var want []api.Finding
	x := truthOf(t, c)
	for i := range c.Logs {
		l, e := conduct.Find(c, ruling(), i)
		if !sameFindings(l, x.findings(ruling(), i)) || e != api.OK {
			t.Error(i, l, e)
		}
		want = append(want, l...)
	}
	l, e := conduct.All(c, ruling())
	if !sameFindings(l, want) || len(l) != 7 || e != api.OK {
		t.Error(l, e)
	}
	if l, e := conduct.Find(c, ruling(), 0); !sameFindings(l, []api.Finding{{Kind: api.BreachPower}}) || e != api.OK {
		t.Error(l, e)
	}
	for _, c := range []api.Case{caseOf(), caseOf(log("A1A")), caseOf(log("A1A", qso(1, low, 1)))} {
		if l, e := conduct.All(c, ruling()); len(l) > 0 || e != api.OK {
			t.Error(c, l, e)
		}
	}
	for _, log := range []int{0, -1, 1} {
		if l, e := conduct.Own(caseOf(), log); len(l) > 0 || e != api.ErrArg {
			t.Error(log, l, e)
		}
		if l, e := conduct.Find(caseOf(), ruling(), log); len(l) > 0 || e != api.ErrArg {
			t.Error(log, l, e)
		}
	}
}
