package readings_test

import (
	"math/rand/v2"
	"slices"
	"testing"

	"pileup/api"
	"pileup/readings"
)

// An outcome is what is told of the least readings of a problem.
type outcome struct {
	cost, count int
	all         [][]int
	statuses    []int
}

// outcomeOf returns what the words of the document say of a small problem.
func outcomeOf(p api.Problem) outcome {
	all, cost := leastOf(p, allReadings(p))
	o := outcome{cost, len(all), all, make([]int, len(p.Pairs))}
	for i := range p.Pairs {
		o.statuses[i] = statusOf(all, i)
	}
	return o
}

// statusOf returns the status of a pair, given all least readings.
func statusOf(all [][]int, pair int) int {
	n := 0
	for _, r := range all {
		if slices.Contains(r, pair) {
			n++
		}
	}
	switch n {
	case 0:
		return api.Denied
	case len(all):
		return api.Certain
	}
	return api.Possible
}

// walk returns the least readings of a problem, as First and Next tell them.
func walk(t *testing.T, p api.Problem) [][]int {
	t.Helper()
	var all [][]int
	r, e := readings.First(p)
	for ; e == api.OK; r, e = readings.Next(p, r) {
		all = append(all, r)
	}
	if len(r) > 0 || e != api.ErrNone {
		t.Fatal(p, r, e)
	}
	return all
}

// hold holds what is told of a problem against an outcome.
func hold(t *testing.T, p api.Problem, want outcome) {
	t.Helper()
	cost, e := readings.Least(p)
	count, f := readings.Count(p)
	statuses, g := readings.Statuses(p)
	if cost != want.cost || count != want.count || !slices.Equal(statuses, want.statuses) || e+f+g != api.OK {
		t.Fatal(p, cost, e, count, f, statuses, g, "want", want)
	}
	if all := walk(t, p); !sameLists(all, want.all) {
		t.Fatal(p, all, "want", want.all)
	}
	for i, status := range want.statuses {
		for has, find := range map[bool]func(api.Problem, int) ([]int, api.Errno){true: readings.With, false: readings.Without} {
			k := slices.IndexFunc(want.all, func(r []int) bool { return slices.Contains(r, i) == has })
			r, e := find(p, i)
			if k < 0 && (len(r) > 0 || e != api.ErrNone) || k >= 0 && (!slices.Equal(r, want.all[k]) || e != api.OK) {
				t.Fatal(p, i, has, r, e, "want", want.all)
			}
		}
		margin, e := readings.Margin(p, i)
		if e == api.OK && (status == api.Certain) != (margin < 0) || e == api.OK && (status == api.Denied) != (margin > 0) || e != api.OK && status == api.Possible {
			t.Fatal(p, i, status, margin, e)
		}
	}
}

// P5.1, R7 to R13: the examples, and problems without nodes or pairs.
func TestExamples(t *testing.T) {
	c, o, d := api.Certain, api.Possible, api.Denied
	for _, x := range []struct {
		p    api.Problem
		want outcome
	}{
		{sample(), outcome{8, 2, [][]int{{0, 3}, {1, 2}}, []int{o, o, o, o}}},
		{forbid(sample(), 1), outcome{8, 1, [][]int{{0, 3}}, []int{c, d, d, c}}},
		{force(sample(), 1), outcome{8, 1, [][]int{{1, 2}}, []int{d, c, c, d}}},
		{force(sample(), 0), outcome{8, 1, [][]int{{0, 3}}, []int{c, d, d, c}}},
		{forbid(sample(), 0, 1, 2, 3), outcome{20, 1, [][]int{nil}, []int{d, d, d, d}}},
		{force(sample(), 0, 3), outcome{8, 1, [][]int{{0, 3}}, []int{c, d, d, c}}},
		{api.Problem{}, outcome{0, 1, [][]int{nil}, nil}},
		{api.Problem{Alone: []int{3, 0, api.MaxCost}}, outcome{api.MaxCost + 3, 1, [][]int{nil}, nil}},
		{api.Problem{Alone: []int{1, 1}, Pairs: []api.Pair{join(0, 1, 2)}}, outcome{2, 2, [][]int{{0}, nil}, []int{o}}},
		{api.Problem{Alone: []int{1, 1}, Pairs: []api.Pair{join(0, 1, 3)}}, outcome{2, 1, [][]int{nil}, []int{d}}},
		{api.Problem{Alone: []int{1, 1}, Pairs: []api.Pair{join(0, 1, 1)}}, outcome{1, 1, [][]int{{0}}, []int{c}}},
		{force(api.Problem{Alone: []int{1, 1}, Pairs: []api.Pair{join(0, 1, 3)}}, 0), outcome{3, 1, [][]int{{0}}, []int{c}}},
		// The pairs of two parts lie between one another.
		{api.Problem{Alone: make([]int, 4), Pairs: []api.Pair{join(0, 2, 0), join(1, 3, 0)}}, outcome{0, 4, [][]int{{0, 1}, {0}, {1}, nil}, []int{o, o}}},
		{api.Problem{Alone: []int{0, 0, 0, 0, 0}, Pairs: []api.Pair{join(0, 2, 0), join(1, 3, 0), join(2, 4, 0)}}, outcome{0, 6, [][]int{{0, 1}, {0}, {1, 2}, {1}, {2}, nil}, []int{o, o, o}}},
		// A pair of Force costs more than its nodes alone, and denies others.
		{force(path(4, 9), 1), outcome{18, 1, [][]int{{1}}, []int{d, c, d}}},
	} {
		hold(t, x.p, x.want)
		if want := outcomeOf(x.p); !sameLists(want.all, x.want.all) || want.cost != x.want.cost || !slices.Equal(want.statuses, x.want.statuses) {
			t.Error(x, want)
		}
	}
}

// P5.2, P5.3: small problems, held against all of their readings.
func TestAllReadings(t *testing.T) {
	r := rand.New(rand.NewPCG(5, 2))
	ties := 0
	for _, c := range chances() {
		for range 250 {
			p := c.problem(r)
			kept := copyOf(p)
			want := outcomeOf(p)
			hold(t, p, want)
			if !same(p, kept) {
				t.Fatal(p, kept)
			}
			if want.count > 1 {
				ties++
			}
		}
	}
	if ties < 300 {
		t.Error(ties)
	}
}

// R9: the first least reading behind any reading, a least one or not.
func TestNext(t *testing.T) {
	for _, x := range []struct {
		p       api.Problem
		r, want []int
		e       api.Errno
	}{
		{sample(), []int{0, 3}, []int{1, 2}, api.OK}, {sample(), []int{1, 2}, nil, api.ErrNone}, {sample(), []int{0}, []int{1, 2}, api.OK}, {sample(), []int{1}, nil, api.ErrNone}, {sample(), []int{2}, nil, api.ErrNone}, {sample(), nil, nil, api.ErrNone}, {sample(), []int{3}, nil, api.ErrNone},
		{forbid(sample(), 0), nil, nil, api.ErrNone}, {api.Problem{}, nil, nil, api.ErrNone}, {api.Problem{Alone: []int{4}}, nil, nil, api.ErrNone},
		{force(path(4, 0), 1), []int{1}, nil, api.ErrNone},
	} {
		if r, e := readings.Next(x.p, x.r); !slices.Equal(r, x.want) || e != x.e {
			t.Error(x, r, e)
		}
	}
	r := rand.New(rand.NewPCG(5, 9))
	for _, c := range chances() {
		for range 100 {
			holdNext(t, c.problem(r))
		}
	}
	// Several parts, whose pairs lie between one another: a reading may be no least one in some of them.
	for _, c := range []chance{{3, 3, 1, 0}, {4, 4, 1, 10}, {4, 3, 2, 0}} {
		for range 60 {
			holdNext(t, mixed(r, rows(3, func() api.Problem { return c.problem(r) })))
		}
	}
}

// holdNext holds the least readings behind all readings of a problem against all of them.
func holdNext(t *testing.T, p api.Problem) {
	t.Helper()
	all := allReadings(p)
	best, _ := leastOf(p, all)
	for _, from := range all {
		k := slices.IndexFunc(best, func(q []int) bool { return isAhead(p, from, q) })
		q, e := readings.Next(p, from)
		if k < 0 && (len(q) > 0 || e != api.ErrNone) || k >= 0 && (!slices.Equal(q, best[k]) || e != api.OK) {
			t.Fatal(p, from, q, e, "want", best)
		}
	}
}

// R10: products of many parts, up to 2^50.
func TestCount(t *testing.T) {
	two := api.Problem{Alone: []int{1, 1}, Pairs: []api.Pair{join(0, 1, 2)}}
	three := path(3, 0)
	for _, x := range []struct {
		p    api.Problem
		want int
		e    api.Errno
	}{
		{api.Problem{}, 1, api.OK}, {sample(), 2, api.OK}, {row(10, sample()), 1 << 10, api.OK}, {row(50, sample()), 1 << 50, api.OK}, {row(51, sample()), 0, api.ErrLimit}, {row(500, sample()), 0, api.ErrLimit},
		{row(50, two), 1 << 50, api.OK}, {beside(row(48, two), three), 3 << 48, api.OK}, {beside(row(49, two), three), 0, api.ErrLimit}, {beside(three, row(49, two)), 0, api.ErrLimit},
		{row(31, three), 617673396283947, api.OK}, {row(32, three), 0, api.ErrLimit}, {hung(16), 1 << 16, api.OK}, {row(3, hung(16)), 1 << 48, api.OK}, {row(4, hung(16)), 0, api.ErrLimit},
		{forbid(row(60, two), 0, 1, 2, 3, 4, 5, 6, 7, 8, 9), 1 << 50, api.OK}, {force(row(60, two), 0, 1, 2, 3, 4, 5, 6, 7, 8, 9), 1 << 50, api.OK}, {force(row(61, two), 0, 1, 2, 3, 4, 5, 6, 7, 8, 9), 0, api.ErrLimit},
	} {
		if n, e := readings.Count(x.p); n != x.want || e != x.e {
			t.Error(len(x.p.Alone), n, e, "want", x.want, x.e)
		}
	}
	// That there are too many to be counted keeps nothing else from being told.
	p := row(500, sample())
	first, e := readings.First(p)
	next, f := readings.Next(p, first)
	if len(first) != 1000 || len(next) != 1000 || e+f != api.OK || !isReading(p, next) || costOf(p, first) != 4000 || costOf(p, next) != 4000 || !slices.Equal(next[:998], first[:998]) || next[998] != 1997 || next[999] != 1998 {
		t.Error(first, e, next, f)
	}
	if l, e := readings.Statuses(p); !slices.Equal(l, slices.Repeat([]int{api.Possible}, 2000)) || e != api.OK {
		t.Error(l, e)
	}
}

// R14: the examples, and pairs that all readings have, or none.
func TestMargin(t *testing.T) {
	one := forbid(sample(), 1)
	for _, x := range []struct {
		p          api.Problem
		pair, want int
		e          api.Errno
	}{
		{one, 3, -4, api.OK}, {one, 0, -6, api.OK}, {one, 2, 6, api.OK}, {one, 1, 0, api.ErrOpen}, {sample(), 0, 0, api.OK},
		{force(sample(), 1), 1, 0, api.ErrOpen}, {force(sample(), 1), 0, 0, api.ErrOpen}, {force(sample(), 1), 2, -6, api.OK}, {force(sample(), 0, 3), 3, 0, api.ErrOpen}, {force(sample(), 0, 3), 2, 0, api.ErrOpen},
		{sample(), -1, 0, api.ErrArg}, {sample(), 4, 0, api.ErrArg}, {sample(), least, 0, api.ErrArg}, {sample(), most, 0, api.ErrArg}, {api.Problem{}, 0, 0, api.ErrArg},
		{api.Problem{Alone: []int{api.MaxCost, api.MaxCost}, Pairs: []api.Pair{join(0, 1, 0)}}, 0, -2 * api.MaxCost, api.OK},
	} {
		if n, e := readings.Margin(x.p, x.pair); n != x.want || e != x.e {
			t.Error(x, n, e)
		}
		if x.e != api.ErrArg {
			continue
		}
		with, e := readings.With(x.p, x.pair)
		without, f := readings.Without(x.p, x.pair)
		if len(with) > 0 || len(without) > 0 || e != api.ErrArg || f != api.ErrArg {
			t.Error(x, with, e, without, f)
		}
	}
	r := rand.New(rand.NewPCG(5, 14))
	for _, c := range chances() {
		for range 100 {
			holdMargins(t, c.problem(r))
		}
	}
}

// holdMargins holds the margins of all pairs of a problem against all of its readings.
func holdMargins(t *testing.T, p api.Problem) {
	t.Helper()
	all := allReadings(p)
	for i := range p.Pairs {
		has := func(r []int) bool { return slices.Contains(r, i) }
		with, m := leastOf(p, slices.DeleteFunc(slices.Clone(all), func(r []int) bool { return !has(r) }))
		without, n := leastOf(p, slices.DeleteFunc(slices.Clone(all), has))
		open := len(with) == 0 || len(without) == 0
		margin, e := readings.Margin(p, i)
		if open && (margin != 0 || e != api.ErrOpen) || !open && (margin != m-n || e != api.OK) {
			t.Fatal(p, i, margin, e, "want", m, n)
		}
	}
}

// P5.4: parts; what is told of a problem is what is told of its parts.
func TestPartsOfRandom(t *testing.T) {
	r := rand.New(rand.NewPCG(5, 44))
	many := 0
	for range 400 {
		p := chance{14, 12, 2, 20}.problem(r)
		cost, e := readings.Least(p)
		count, f := readings.Count(p)
		space, g := readings.Space(p)
		statuses, h := readings.Statuses(p)
		parts, i := readings.Parts(p)
		if e+f+g+h+i != api.OK {
			t.Fatal(p, e, f, g, h, i)
		}
		costs, counts, spaces := 0, 1, 1
		for _, nodes := range parts {
			q, indices, e := readings.Only(p, nodes)
			n, f := readings.Least(q)
			m, g := readings.Count(q)
			l, h := readings.Statuses(q)
			if e+f+g+h != api.OK {
				t.Fatal(p, q, e, f, g, h)
			}
			costs, counts, spaces = costs+n, counts*m, max(spaces, len(allReadings(q)))
			for k, status := range l {
				if statuses[indices[k]] != status {
					t.Fatal(p, q, statuses, l)
				}
			}
		}
		if cost != costs || count != counts || space != spaces {
			t.Fatal(p, cost, costs, count, counts, space, spaces)
		}
		if len(parts) > 2 {
			many++
		}
	}
	if many < 100 {
		t.Error(many)
	}
}

// P5.6: decisions for what is so already change nothing; others leave the least readings that they allow.
func TestDecisions(t *testing.T) {
	r := rand.New(rand.NewPCG(5, 66))
	seen := [4]int{}
	for _, c := range chances() {
		for range 100 {
			p := c.problem(r)
			want := outcomeOf(p)
			for i, status := range want.statuses {
				if slices.Contains(p.Force, i) || slices.Contains(p.Forbid, i) {
					continue
				}
				seen[status]++
				switch status {
				case api.Certain:
					hold(t, force(p, i), want)
				case api.Denied:
					hold(t, forbid(p, i), want)
				default:
					hold(t, force(p, i), narrowed(want, i, true))
					hold(t, forbid(p, i), narrowed(want, i, false))
				}
			}
		}
	}
	if slices.Min(seen[1:]) < 200 {
		t.Error(seen)
	}
}

// narrowed returns an outcome with those least readings that have a pair, or lack it.
func narrowed(o outcome, pair int, has bool) outcome {
	o.all = slices.DeleteFunc(slices.Clone(o.all), func(r []int) bool { return slices.Contains(r, pair) != has })
	o.count = len(o.all)
	o.statuses = slices.Clone(o.statuses)
	for i := range o.statuses {
		o.statuses[i] = statusOf(o.all, i)
	}
	return o
}

// P5.7: greater costs.
func TestGreaterCosts(t *testing.T) {
	r := rand.New(rand.NewPCG(5, 7))
	for _, c := range chances() {
		for range 100 {
			p := c.problem(r)
			before, e := readings.Least(p)
			q, more := copyOf(p), 1+r.IntN(c.cost+2)
			if len(p.Alone) == 0 {
				continue
			}
			if i := r.IntN(len(p.Pairs) + len(p.Alone)); i < len(p.Pairs) {
				q.Pairs[i].Cost += more
			} else {
				q.Alone[i-len(p.Pairs)] += more
			}
			if !readings.Valid(q) {
				continue
			}
			after, f := readings.Least(q)
			if after < before || after > before+more || e+f != api.OK {
				t.Fatal(p, q, before, after, more, e, f)
			}
		}
	}
}

// P5.2: problems of the greatest sizes, with all of their costs equal and with costs of all sizes.
func TestGreatProblems(t *testing.T) {
	r := rand.New(rand.NewPCG(5, 22))
	some := func() int { return r.IntN(api.MaxCost + 1) }
	for i, p := range []api.Problem{row(80, path(23, 0)), row(80, path(23, 1)), row(70, full(11, some, some)), row(58, hung(16)), {Alone: slices.Repeat([]int{api.MaxCost}, api.MaxNodes)}, row(500, sample()), stars(1960, 30, some)} {
		cost, e := readings.Least(p)
		first, f := readings.First(p)
		if e+f != api.OK || !isReading(p, first) || costOf(p, first) != cost {
			t.Fatal(i, cost, e, len(first), f)
		}
		next, e := readings.Next(p, first)
		if e == api.OK && (!isReading(p, next) || costOf(p, next) != cost || !isAhead(p, first, next)) || e != api.OK && e != api.ErrNone {
			t.Fatal(i, e, next)
		}
		l, e := readings.Statuses(p)
		if e != api.OK {
			t.Fatal(i, e)
		}
		for k, status := range l {
			if has := slices.Contains(first, k); has && status == api.Denied || !has && status == api.Certain {
				t.Fatal(i, k, status)
			}
		}
	}
}

// stars returns two nodes in a pair, the one in n pairs with other nodes, too, the other one in m pairs.
func stars(n, m int, cost func() int) api.Problem {
	p := api.Problem{Alone: []int{cost(), cost()}, Pairs: []api.Pair{join(0, 1, cost())}}
	for range n + m {
		v := len(p.Alone)
		p.Alone = append(p.Alone, cost())
		hub := 0
		if v >= n+2 {
			hub = 1
		}
		p.Pairs = append(p.Pairs, join(hub, v, cost()))
	}
	return p
}
