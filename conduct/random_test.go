package conduct_test

import (
	"math/rand/v2"
	"reflect"
	"slices"
	"testing"

	"pileup/api"
	"pileup/clocks"
	"pileup/conduct"
	"pileup/readings"
)

// pick returns one of some things.
func pick[T any](r *rand.Rand, l ...T) T { return l[r.IntN(len(l))] }

// someContacts adds lines of contacts to the lists of lines of some calls, as the clocks of these may have shown them.
func someContacts(r *rand.Rand, calls []string, slip int) [][]api.Line {
	lines := make([][]api.Line, len(calls))
	minute := slip
	for range r.IntN(11) {
		minute += pick(r, 0, 1, 1, 2, 2, 3, 5, 9)
		a, b, khz := r.IntN(len(calls)), r.IntN(len(calls)), pick(r, low, middle, middle, high, outside)
		if len(lines[a]) > 6 || len(lines[b]) > 6 {
			continue
		}
		x := qso(minute+r.IntN(2*slip+1)-slip, khz, len(lines[a])+pick(r, 1, 1, 1, 2, 3))
		if a != b {
			y := qso(minute+r.IntN(2*slip+1)-slip, khz, len(lines[b])+pick(r, 1, 1, 1, 2, 3))
			x.Call, x.Got = calls[b], y.Sent
			y.Call, y.Got = calls[a], x.Sent
			if r.IntN(4) > 0 {
				lines[b] = append(lines[b], y)
			}
		}
		lines[a] = append(lines[a], x)
	}
	for _, l := range lines {
		slices.SortStableFunc(l, func(a, b api.Line) int { return a.Minute - b.Minute })
	}
	return lines
}

// someCase returns a case of up to three logs.
func someCase(r *rand.Rand) api.Case {
	calls := []string{"A1A", "B1B", "K1K"}[:1+r.IntN(3)]
	c := caseOf()
	c.Contest.Slip, c.Contest.Drift, c.Contest.Window = pick(r, 0, 1, 2, 5), pick(r, 0, 0, 100), r.IntN(3)
	if r.IntN(8) == 0 {
		c.Contest.Layout = api.Layout{Zone: true}
	}
	for i, lines := range someContacts(r, calls, c.Contest.Slip) {
		if c.Contest.Layout.Zone {
			for k := range lines {
				lines[k].Sent, lines[k].Got = api.Exchange{Zone: 1}, api.Exchange{Zone: 1 + r.IntN(2)}
			}
		}
		l := log(calls[i], lines...)
		l.Category, l.Power = 1+r.IntN(9), 90+r.IntN(20)
		if r.IntN(4) == 0 {
			l.Jumps = []int{1 + r.IntN(30)}
		}
		for k := range lines {
			if r.IntN(9) == 0 {
				c.Struck = append(c.Struck, ref(i, k))
			}
		}
		c.Logs = append(c.Logs, l)
	}
	return c
}

// someRules returns rules of conduct.
func someRules(r *rand.Rand) api.Conduct {
	k := api.Conduct{Gap: r.IntN(9), Hour: 1 + r.IntN(20), Changes: r.IntN(4), Minutes: r.IntN(13), Rest: 1 + r.IntN(30), Share: pick(r, 0, 20, 25, 50, 99, 100, r.IntN(101))}
	for range 9 {
		k.Power = append(k.Power, 90+r.IntN(20))
	}
	return k
}

// A copy of a case has memory of its own.
func copyOfCase(c api.Case) api.Case {
	c.Logs, c.Struck, c.Force, c.Forbid = slices.Clone(c.Logs), slices.Clone(c.Struck), slices.Clone(c.Force), slices.Clone(c.Forbid)
	c.Contest.Bands, c.Contest.Table = slices.Clone(c.Contest.Bands), slices.Clone(c.Contest.Table)
	for i, l := range c.Logs {
		c.Logs[i].Jumps, c.Logs[i].Lines = slices.Clone(l.Jumps), slices.Clone(l.Lines)
	}
	return c
}

// holdFindings holds the findings of a log against the words of the document, and returns them.
func holdFindings(x truth, k api.Conduct, log int) []api.Finding {
	x.t.Helper()
	l, e := conduct.Find(x.c, k, log)
	if !sameFindings(l, x.findings(k, log)) || e != api.OK {
		x.t.Fatal(x.c, k, log, l, e, "want", x.findings(k, log))
	}
	for kind := api.BreachSignals; kind <= api.BreachPower; kind++ {
		f, e := tell(x.c, k, kind, log)
		n, g := conduct.Fewest(x.c, k, kind, log)
		least, has := x.least(k, kind, log, x.own[log])
		if kind == api.BreachSignals && has {
			f.Lines = least
		}
		want := api.ErrNone
		if has {
			want = api.OK
		}
		if e != want || g != want || n != len(least) || has && !sameFinding(f, api.Finding{Kind: kind, Log: log, Lines: least}) || !has && !sameFinding(f, api.Finding{}) {
			x.t.Fatal(x.c, k, kind, log, f, e, n, g, "want", least, has)
		}
	}
	for _, f := range l {
		e := conduct.Check(x.c, k, f)
		if needed, g := conduct.Needed(x.c, k, f); !needed || e+g != api.OK {
			x.t.Fatal(x.c, k, f, e, needed, g)
		}
	}
	return l
}

// N1 to N15, P8.2, P8.4: random cases, logs and rules, with all lists of own lines.
func TestRandomFindings(t *testing.T) {
	r := rand.New(rand.NewPCG(8, 1))
	var kinds [7]int
	accepted, tied := 0, 0
	for i := range 1500 {
		c, k := someCase(r), someRules(r)
		kept, rules := copyOfCase(c), slices.Clone(k.Power)
		x := truthOf(t, c)
		if len(x.system.Ties) > 0 {
			tied++
		}
		var all []api.Finding
		for log := range c.Logs {
			own, e := conduct.Own(c, log)
			if !slices.Equal(own, x.own[log]) || e != api.OK {
				t.Fatal(c, own, e)
			}
			all = append(all, holdFindings(x, k, log)...)
			if i%5 == 0 {
				accepted += holdAllLists(x, k, log)
			}
		}
		l, e := conduct.All(c, k)
		if !sameFindings(l, all) || e != api.OK {
			t.Fatal(c, k, l, e, "want", all)
		}
		for _, f := range l {
			kinds[f.Kind]++
		}
		if !reflect.DeepEqual(c, kept) || !slices.Equal(k.Power, rules) {
			t.Fatal(c, kept, k, rules)
		}
	}
	for kind, n := range kinds[1:] {
		if n < 200 {
			t.Error(kind+1, n)
		}
	}
	if accepted < 1000 || tied < 300 {
		t.Error(accepted, tied)
	}
}

// most returns for each two lines of a case by how much the second one may be later at most, and so for the beginning: its place is 0, and lines are at the places behind it.
func most(t *testing.T, s api.System) ([][]int, func(api.Ref) int) {
	t.Helper()
	first := []int{0}
	n := 1
	for _, l := range s.Tracks {
		first = append(first, n)
		n += len(l.Times)
	}
	place := func(r api.Ref) int { return first[r.Log+1] + r.Line }
	var m [][]int
	for i := range n {
		m = append(m, slices.Repeat([]int{api.NoBound}, n))
		m[i][i] = 0
	}
	bounds, e := clocks.Bounds(s)
	if e != api.OK {
		t.Fatal(s, e)
	}
	for _, b := range bounds {
		i, j := place(b.From), place(b.To)
		m[i][j] = min(m[i][j], b.Most)
	}
	for k := range n {
		for i := range n {
			for j := range n {
				m[i][j] = min(m[i][j], m[i][k]+m[k][j])
			}
		}
	}
	return m, place
}

// someTimes returns times that keep all bounds of a system: one line after the other gets a minute that those chosen before it leave.
func someTimes(t *testing.T, r *rand.Rand, s api.System) [][]int {
	t.Helper()
	m, place := most(t, s)
	chosen := map[int]int{0: 0}
	var refs []api.Ref
	var times [][]int
	for i, l := range s.Tracks {
		times = append(times, make([]int, len(l.Times)))
		for j := range l.Times {
			refs = append(refs, ref(i, j))
		}
	}
	ends := r.IntN(4) > 0
	for _, i := range r.Perm(len(refs)) {
		at := place(refs[i])
		lo, hi := -api.NoBound, api.NoBound
		for k, minute := range chosen {
			lo, hi = max(lo, minute-m[at][k]), min(hi, minute+m[k][at])
		}
		minute := lo + r.IntN(hi-lo+1)
		if ends {
			minute = pick(r, lo, hi)
		}
		chosen[at] = minute
		times[refs[i].Log][refs[i].Line] = minute
	}
	if keeps, e := clocks.Keeps(s, times); !keeps || e != api.OK {
		t.Fatal(s, times, e)
	}
	return times
}

// breaches reports whether lines breach the rules if these are the true minutes of all lines of their log.
func breaches(x truth, k api.Conduct, f api.Finding, times []int) bool {
	bands := 0
	for i, line := range f.Lines {
		if band := x.band(f.Log, line); band > 0 && i > 0 && band != x.band(f.Log, f.Lines[i-1]) {
			bands++
		}
	}
	span := 0
	if n := len(f.Lines); n > 0 {
		span = times[f.Lines[n-1]] - times[f.Lines[0]]
	}
	switch f.Kind {
	case api.BreachSignals:
		return bands == 1 && span < k.Gap
	case api.BreachChanges:
		return bands > k.Changes && span < k.Hour
	case api.BreachMinutes:
		sum := 0
		for i, line := range x.own[f.Log] {
			if i == 0 {
				continue
			}
			if minutes := times[line] - times[x.own[f.Log][i-1]]; minutes < k.Rest {
				sum += minutes
			}
		}
		return sum > k.Minutes
	}
	return true
}

// P8.3, P0.8: what is accepted is a breach at all times; delays that are told are so at all times.
func TestAtAllTimes(t *testing.T) {
	r := rand.New(rand.NewPCG(8, 2))
	var kinds [7]int
	for range 400 {
		c, k := someCase(r), someRules(r)
		x := truthOf(t, c)
		var accepted []api.Finding
		for log := range c.Logs {
			all := lists(x.own[log])
			for range 40 {
				f := api.Finding{Kind: 1 + r.IntN(3), Log: log, Lines: pick(r, all...)}
				if conduct.Check(c, k, f) == api.OK {
					accepted = append(accepted, f)
					kinds[f.Kind]++
				}
			}
			l, _ := conduct.Find(c, k, log)
			accepted = append(accepted, l...)
		}
		for range 10 {
			times := someTimes(t, r, x.system)
			for _, f := range accepted {
				if !breaches(x, k, f, times[f.Log]) {
					t.Fatal(c, k, f, times)
				}
			}
			for log, l := range times {
				i, j := r.IntN(len(l)+1), r.IntN(len(l)+1)
				if i == len(l) || j == len(l) {
					continue
				}
				if delay, e := conduct.Sure(c, log, i, j); l[j]-l[i] < delay.Lo || l[j]-l[i] > delay.Hi || e != api.OK {
					t.Fatal(c, log, i, j, delay, e, times)
				}
			}
		}
	}
	for kind := api.BreachSignals; kind <= api.BreachMinutes; kind++ {
		if kinds[kind] < 100 {
			t.Error(kind, kinds)
		}
	}
}

// P8.5: what is accepted by milder rules is accepted by the stricter ones.
func TestMilderRules(t *testing.T) {
	r := rand.New(rand.NewPCG(8, 3))
	var kinds [7]int
	for range 600 {
		c, mild := someCase(r), someRules(r)
		strict := mild
		strict.Gap, strict.Hour, strict.Rest = mild.Gap+r.IntN(3), mild.Hour+r.IntN(3), mild.Rest+r.IntN(3)
		strict.Changes, strict.Minutes, strict.Share = max(0, mild.Changes-r.IntN(2)), max(0, mild.Minutes-r.IntN(2)), max(0, mild.Share-r.IntN(9))
		strict.Power = nil
		for _, n := range mild.Power {
			strict.Power = append(strict.Power, n-r.IntN(2))
		}
		for log := range c.Logs {
			own, _ := conduct.Own(c, log)
			all := lists(own)
			for i := range 60 {
				f := api.Finding{Kind: 1 + i%6, Log: log, Lines: pick(r, all...)}
				if f.Kind == api.BreachPower {
					f.Lines = nil
				}
				if conduct.Check(c, mild, f) != api.OK {
					continue
				}
				kinds[f.Kind]++
				if e := conduct.Check(c, strict, f); e != api.OK {
					t.Fatal(c, mild, strict, f, e)
				}
			}
		}
	}
	for _, n := range kinds[1:] {
		if n < 100 {
			t.Error(kinds)
		}
	}
}

// P8.6: minutes on the air add up, and delays lie within the sums of those by a line between.
func TestTimeOnTheAir(t *testing.T) {
	r := rand.New(rand.NewPCG(8, 4))
	more := 0
	for range 1200 {
		c, k := someCase(r), someRules(r)
		for log := range c.Logs {
			own, _ := conduct.Own(c, log)
			if len(own) == 0 {
				continue
			}
			lines := pick(r, lists(own)[1:]...)
			at := r.IntN(len(lines))
			whole, e := conduct.OnAir(c, k, log, lines)
			start, f := conduct.OnAir(c, k, log, lines[:at+1])
			end, g := conduct.OnAir(c, k, log, lines[at:])
			if whole != start+end || e+f+g != api.OK {
				t.Fatal(c, k, lines, at, whole, e, start, f, end, g)
			}
			if start > 0 && end > 0 {
				more++
			}
			n := len(c.Logs[log].Lines)
			i, j, l := r.IntN(n), r.IntN(n), r.IntN(n)
			x, e := conduct.Sure(c, log, i, l)
			y, f := conduct.Sure(c, log, i, j)
			z, g := conduct.Sure(c, log, j, l)
			if x.Lo < y.Lo+z.Lo || x.Hi > y.Hi+z.Hi || e+f+g != api.OK || i < l && x.Lo < 0 {
				t.Fatal(c, i, j, l, x, y, z, e, f, g)
			}
		}
	}
	if more < 50 {
		t.Error(more)
	}
}

// Forced and forbidden duos change delays as they change the system.
func TestDecisions(t *testing.T) {
	r := rand.New(rand.NewPCG(8, 5))
	changed := 0
	for range 1000 {
		c, k := someCase(r), someRules(r)
		l, e := readings.Candidates(c)
		if e != api.OK || len(l) == 0 {
			continue
		}
		before := truthOf(t, c)
		x := pick(r, l...)
		if r.IntN(2) == 0 {
			c.Force = []api.Duo{{A: x.A, B: x.B}}
		} else {
			c.Forbid = []api.Duo{{A: x.A, B: x.B}}
		}
		after := truthOf(t, c)
		if !reflect.DeepEqual(before.delays, after.delays) {
			changed++
		}
		for log := range c.Logs {
			holdFindings(after, k, log)
		}
	}
	if changed < 50 {
		t.Error(changed)
	}
}
