package conduct_test

import (
	"math/rand/v2"
	"slices"
	"testing"

	"pileup/api"
	"pileup/clocks"
	"pileup/conduct"
	"pileup/readings"
)

// crew returns a case of five logs of 400 lines each, with nearly as many ties as there may be.
func crew() api.Case {
	c := caseOf()
	calls := []string{"A1A", "B1B", "C1C", "D1D", "E1E"}
	for i, call := range calls {
		var l []api.Line
		for j := range api.MaxLines {
			x := with("Z9Z", 3*j, j+1, j+1)
			switch {
			case j%4 == i%2 && i+1 < len(calls):
				x.Call = calls[i+1]
			case j%4 == (i+1)%2 && i > 0:
				x.Call = calls[i-1]
			case j%4 > 1:
				x.Khz = []int{middle, high, middle, outside}[(i+j/4)%4]
			}
			// Some copies are too wrong.
			if j%40 == 0 {
				x.Got.Serial = api.MaxSerial
			}
			l = append(l, x)
		}
		c.Logs = append(c.Logs, log(call, l...))
		c.Logs[i].Jumps = []int{100 + 10*i, 700 - 20*i}
	}
	c.Contest.Slip, c.Contest.Drift, c.Contest.Window, c.Contest.Near = 10, 2, 1, 0
	return c
}

// N3, N6, P0.8: in the greatest cases delays are those of the system.
func TestLargeDelays(t *testing.T) {
	c := crew()
	s, e := readings.System(c)
	if e != api.OK || len(s.Ties) < 380 {
		t.Fatal(e, len(s.Ties))
	}
	r := rand.New(rand.NewPCG(8, 6))
	for log := range 3 {
		i, j := r.IntN(200), 200+r.IntN(200)
		delay, e := conduct.Sure(c, log, i, j)
		want, f := clocks.Relation(s, ref(log, i), ref(log, j))
		if delay != want || e+f != api.OK {
			t.Error(log, i, j, delay, e, want, f)
		}
		lines := []int{i}
		sum := 0
		for i < j-20 {
			next := i + 1 + r.IntN(20)
			step, _ := clocks.Relation(s, ref(log, i), ref(log, next))
			sum += step.Lo
			i = next
			lines = append(lines, i)
		}
		if n, e := conduct.OnAir(c, onAir(0, api.MaxMinute), log, lines); n != sum || e != api.OK {
			t.Error(log, lines, n, e, sum)
		}
	}
}

// N11, N12, P8.2: all findings of the greatest cases are told, and accepted.
func TestLargeFindings(t *testing.T) {
	c := crew()
	k := api.Conduct{Gap: 6, Hour: 100, Changes: 10, Minutes: 800, Rest: 100, Power: slices.Repeat([]int{99}, 9)}
	l, e := conduct.All(c, k)
	if e != api.OK {
		t.Fatal(e)
	}
	var kinds [7]int
	for _, f := range l {
		kinds[f.Kind]++
		if kinds[f.Kind] > 1 {
			continue
		}
		if needed, e := conduct.Needed(c, k, f); !needed || e != api.OK {
			t.Error(f, needed, e)
		}
	}
	if kinds[api.BreachSignals] < 100 || kinds[api.BreachChanges] != 5 || kinds[api.BreachMinutes] != 5 || kinds[api.BreachShare] != 4 || kinds[api.BreachPower] != 5 {
		t.Error(kinds)
	}
}

// A plain is the minutes that each two own lines of a log prove, as Relation tells them, and the most that lists of so many lines prove that begin with a line.
type plain struct {
	minutes [][]int
	most    [][]int
}

// plainOf returns the plain of a log of a truth.
func plainOf(x truth, k api.Conduct, log int) plain {
	p := plain{most: [][]int{make([]int, len(x.own[log]))}}
	for i := range x.own[log] {
		var l []int
		for j := range x.own[log] {
			l = append(l, x.onAir(k, log, []int{x.own[log][i], x.own[log][j]}))
		}
		p.minutes = append(p.minutes, l)
	}
	for n := range p.minutes {
		l := slices.Repeat([]int{-1}, len(p.minutes))
		for i := range l {
			for j := i + 1; j < len(l); j++ {
				if p.most[n][j] >= 0 {
					l[i] = max(l[i], p.minutes[i][j]+p.most[n][j])
				}
			}
		}
		p.most = append(p.most, l)
	}
	return p
}

// least returns the first shortest list of lines that prove more minutes than a number, one line after the other, and whether there is one.
func (p plain) least(minutes int) ([]int, bool) {
	for n, l := range p.most {
		if len(l) == 0 || slices.Max(l) <= minutes {
			continue
		}
		list := []int{slices.IndexFunc(l, func(m int) bool { return m > minutes })}
		for sum := 0; len(list) <= n; {
			last := list[len(list)-1]
			next := last + 1
			for p.most[n-len(list)][next] < 0 || sum+p.minutes[last][next]+p.most[n-len(list)][next] <= minutes {
				next++
			}
			sum += p.minutes[last][next]
			list = append(list, next)
		}
		return list, true
	}
	return nil, false
}

// N7: least proofs of logs with more lines than all lists of them can be looked at, against all lists of each length.
func TestLongMinutes(t *testing.T) {
	r := rand.New(rand.NewPCG(8, 7))
	found, long := 0, 0
	for range 200 {
		var minutes []int
		at := 5
		for range 10 + r.IntN(30) {
			at += pick(r, 0, 1, 1, 2, 3, 5, 25)
			minutes = append(minutes, at)
		}
		c := shown(minutes...)
		c.Contest.Slip, c.Contest.Drift = pick(r, 0, 1, 3, 5), pick(r, 0, 100)
		for line := range minutes {
			if r.IntN(10) == 0 {
				c = struck(c, line)
			}
		}
		x := truthOf(t, c)
		for range 6 {
			k := onAir(r.IntN(at), 1+r.IntN(40))
			var want []int
			list, has := plainOf(x, k, 0).least(k.Minutes)
			for _, i := range list {
				want = append(want, x.own[0][i])
			}
			f, e := conduct.Minutes(c, k, 0)
			if has != (e == api.OK) || !has && e != api.ErrNone || !slices.Equal(f.Lines, want) {
				t.Fatal(c, k, f, e, "want", want, has)
			}
			if has {
				found++
			}
			if len(want) > 6 {
				long++
			}
		}
	}
	if found < 100 || long < 30 {
		t.Error(found, long)
	}
}
