package readings_test

import (
	"math/rand/v2"
	"slices"
	"testing"

	"pileup/api"
	"pileup/readings"
)

const (
	most  = int(^uint(0) >> 1)
	least = -most - 1
)

// join is a short way to write a pair.
func join(a, b, cost int) api.Pair { return api.Pair{A: a, B: b, Cost: cost} }

// sample returns the problem of the examples.
func sample() api.Problem {
	return api.Problem{Alone: []int{5, 5, 5, 5}, Pairs: []api.Pair{join(0, 1, 2), join(0, 3, 4), join(1, 2, 4), join(2, 3, 6)}}
}

// force and forbid return a problem with further decisions.
func force(p api.Problem, pairs ...int) api.Problem {
	p.Force = slices.Sorted(slices.Values(slices.Concat(p.Force, pairs)))
	return p
}
func forbid(p api.Problem, pairs ...int) api.Problem {
	p.Forbid = slices.Sorted(slices.Values(slices.Concat(p.Forbid, pairs)))
	return p
}

// copyOf returns a problem with memory of its own.
func copyOf(p api.Problem) api.Problem {
	return api.Problem{Alone: slices.Clone(p.Alone), Pairs: slices.Clone(p.Pairs), Force: slices.Clone(p.Force), Forbid: slices.Clone(p.Forbid)}
}

// same reports whether two problems are equal.
func same(p, q api.Problem) bool {
	return slices.Equal(p.Alone, q.Alone) && slices.Equal(p.Pairs, q.Pairs) && slices.Equal(p.Force, q.Force) && slices.Equal(p.Forbid, q.Forbid)
}

// sameLists reports whether two lists of lists are equal.
func sameLists(a, b [][]int) bool { return slices.EqualFunc(a, b, slices.Equal[[]int]) }

// meet reports whether two pairs have a node in common.
func meet(x, y api.Pair) bool { return x.A == y.A || x.A == y.B || x.B == y.A || x.B == y.B }

// isReading reports whether a list of increasing indices is a reading, by the words of the document.
func isReading(p api.Problem, r []int) bool {
	for i := range r {
		for k := range i {
			if meet(p.Pairs[r[i]], p.Pairs[r[k]]) {
				return false
			}
		}
	}
	for _, i := range p.Force {
		if !slices.Contains(r, i) {
			return false
		}
	}
	for _, i := range p.Forbid {
		if slices.Contains(r, i) {
			return false
		}
	}
	return true
}

// costOf returns what a reading costs, by the words of the document.
func costOf(p api.Problem, r []int) int {
	sum := 0
	for v, cost := range p.Alone {
		if !slices.ContainsFunc(r, func(i int) bool { return p.Pairs[i].A == v || p.Pairs[i].B == v }) {
			sum += cost
		}
	}
	for _, i := range r {
		sum += p.Pairs[i].Cost
	}
	return sum
}

// isAhead reports whether a reading comes ahead of another one, by the words of the document.
func isAhead(p api.Problem, r, q []int) bool {
	for i := range p.Pairs {
		if slices.Contains(r, i) != slices.Contains(q, i) {
			return slices.Contains(r, i)
		}
	}
	return false
}

// allReadings returns all readings of a small problem, in order.
func allReadings(p api.Problem) [][]int {
	var all [][]int
	for set := range 1 << len(p.Pairs) {
		var r []int
		for i := range p.Pairs {
			if set>>i&1 == 1 {
				r = append(r, i)
			}
		}
		if isReading(p, r) {
			all = append(all, r)
		}
	}
	slices.SortFunc(all, func(r, q []int) int {
		switch {
		case isAhead(p, r, q):
			return -1
		case isAhead(p, q, r):
			return 1
		}
		return 0
	})
	return all
}

// leastOf returns those of some readings that cost least, and what they cost.
func leastOf(p api.Problem, all [][]int) ([][]int, int) {
	var l [][]int
	best := most
	for _, r := range all {
		switch n := costOf(p, r); {
		case n < best:
			l, best = [][]int{r}, n
		case n == best:
			l = append(l, r)
		}
	}
	return l, best
}

// A chance says what random problems are like: the most nodes and pairs, the greatest cost, and how many of 100 pairs judges decide on.
type chance struct{ nodes, pairs, cost, judged int }

// problem returns a random problem.
func (c chance) problem(r *rand.Rand) api.Problem {
	var p api.Problem
	n := r.IntN(c.nodes + 1)
	for range n {
		p.Alone = append(p.Alone, r.IntN(c.cost+1))
	}
	var all []api.Pair
	for a := range n {
		for b := a + 1; b < n; b++ {
			all = append(all, join(a, b, r.IntN(2*c.cost+1)))
		}
	}
	r.Shuffle(len(all), func(i, k int) { all[i], all[k] = all[k], all[i] })
	p.Pairs = all[:min(len(all), r.IntN(c.pairs+1))]
	slices.SortFunc(p.Pairs, func(x, y api.Pair) int { return (x.A-y.A)*n + x.B - y.B })
	for i, x := range p.Pairs {
		if r.IntN(100) >= c.judged {
			continue
		}
		if r.IntN(2) == 0 {
			p.Forbid = append(p.Forbid, i)
		} else if !slices.ContainsFunc(p.Force, func(k int) bool { return meet(x, p.Pairs[k]) }) {
			p.Force = append(p.Force, i)
		}
	}
	return p
}

// chances are those of small problems, with many readings that cost the same and with few.
func chances() []chance {
	return []chance{{6, 8, 1, 0}, {6, 8, 1, 30}, {8, 9, 2, 10}, {7, 9, 20, 20}, {9, 9, 0, 15}, {6, 9, api.MaxCost / 2, 10}}
}

// hung returns one part of n pairs of which a reading may have and lack each, at no cost: they hang together by a pair that is forced.
func hung(n int) api.Problem {
	p := api.Problem{Alone: make([]int, 2*n+2)}
	for i := range n {
		p.Pairs = append(p.Pairs, join(0, 2*i+2, 0))
	}
	p.Pairs = slices.Insert(p.Pairs, 0, join(0, 1, 0))
	p.Force = []int{0}
	for i := range n {
		p.Pairs = append(p.Pairs, join(2*i+2, 2*i+3, 0))
	}
	return p
}

// beside returns problems beside one another.
func beside(l ...api.Problem) api.Problem {
	var q api.Problem
	for _, p := range l {
		nodes, pairs := len(q.Alone), len(q.Pairs)
		q.Alone = append(q.Alone, p.Alone...)
		for _, x := range p.Pairs {
			q.Pairs = append(q.Pairs, join(x.A+nodes, x.B+nodes, x.Cost))
		}
		for _, i := range p.Force {
			q.Force = append(q.Force, i+pairs)
		}
		for _, i := range p.Forbid {
			q.Forbid = append(q.Forbid, i+pairs)
		}
	}
	return q
}

// row returns n equal problems beside one another.
func row(n int, p api.Problem) api.Problem { return beside(slices.Repeat([]api.Problem{p}, n)...) }

// rows returns n random problems beside one another.
func rows(n int, p func() api.Problem) api.Problem {
	var l []api.Problem
	for range n {
		l = append(l, p())
	}
	return beside(l...)
}

// mixed returns a problem with its nodes in another order.
func mixed(r *rand.Rand, p api.Problem) api.Problem {
	to := r.Perm(len(p.Alone))
	q := api.Problem{Alone: make([]int, len(p.Alone))}
	for v, cost := range p.Alone {
		q.Alone[to[v]] = cost
	}
	for _, x := range p.Pairs {
		q.Pairs = append(q.Pairs, join(min(to[x.A], to[x.B]), max(to[x.A], to[x.B]), x.Cost))
	}
	order := slices.Clone(q.Pairs)
	slices.SortFunc(order, func(x, y api.Pair) int { return (x.A-y.A)*len(to) + x.B - y.B })
	for _, i := range p.Force {
		q.Force = append(q.Force, slices.Index(order, q.Pairs[i]))
	}
	for _, i := range p.Forbid {
		q.Forbid = append(q.Forbid, slices.Index(order, q.Pairs[i]))
	}
	q.Pairs = order
	slices.Sort(q.Force)
	slices.Sort(q.Forbid)
	return q
}

// path returns n nodes that cost some number each, each one in a pair with the next one at no cost.
func path(n, alone int) api.Problem {
	p := api.Problem{Alone: slices.Repeat([]int{alone}, n)}
	for v := range n - 1 {
		p.Pairs = append(p.Pairs, join(v, v+1, 0))
	}
	return p
}

// full returns n nodes, all in pairs with all, at these costs.
func full(n int, alone, pair func() int) api.Problem {
	var p api.Problem
	for v := range n {
		p.Alone = append(p.Alone, alone())
		for w := v + 1; w < n; w++ {
			p.Pairs = append(p.Pairs, join(v, w, pair()))
		}
	}
	return p
}

// across returns twice n nodes, of which the first half is in pairs with the second half, at these costs.
func across(n int, alone, pair func() int) api.Problem {
	p := full(2*n, alone, pair)
	p.Pairs = slices.DeleteFunc(p.Pairs, func(x api.Pair) bool { return x.A >= n || x.B < n })
	return p
}

// always returns a function that returns a number.
func always(n int) func() int { return func() int { return n } }

// A flaw is a problem that is not valid, and what Check returns for it.
type flaw struct {
	p    api.Problem
	e    api.Errno
	want int
}

// flaws returns problems that are not valid.
func flaws() []flaw {
	change := func(e api.Errno, n int, changes ...func(*api.Problem)) flaw {
		p := sample()
		for _, f := range changes {
			f(&p)
		}
		return flaw{p, e, n}
	}
	alone := func(l ...int) func(*api.Problem) { return func(p *api.Problem) { p.Alone = l } }
	pairs := func(l ...api.Pair) func(*api.Problem) { return func(p *api.Problem) { p.Pairs = l } }
	force := func(l ...int) func(*api.Problem) { return func(p *api.Problem) { p.Force = l } }
	forbid := func(l ...int) func(*api.Problem) { return func(p *api.Problem) { p.Forbid = l } }
	bad := api.ErrProblem
	return []flaw{
		change(api.ErrLimit, 0, alone(make([]int, api.MaxNodes+1)...)),
		change(api.ErrLimit, 0, pairs(make([]api.Pair, api.MaxPairs+1)...)),
		change(api.ErrLimit, 0, alone(-1), pairs(make([]api.Pair, api.MaxPairs+1)...)),
		change(bad, 1, alone(5, 5, 5, -1)), change(bad, 1, alone(5, 5, api.MaxCost+1, 5)), change(bad, 1, alone(least, most)),
		change(bad, 1, alone(-1), force(9), forbid(9)),
		change(bad, 2, alone(5, 5, 5)), change(bad, 2, alone()),
		change(bad, 2, pairs(join(1, 0, 2))), change(bad, 2, pairs(join(1, 1, 2))), change(bad, 2, pairs(join(-1, 1, 2))), change(bad, 2, pairs(join(0, 4, 2))), change(bad, 2, pairs(join(4, 5, 2))),
		change(bad, 2, pairs(join(0, 1, -1))), change(bad, 2, pairs(join(0, 1, api.MaxCost+1))), change(bad, 2, pairs(join(least, most, 0))), change(bad, 2, pairs(join(0, most, 0))),
		change(bad, 2, pairs(join(0, 1, 2), join(0, 1, 2))), change(bad, 2, pairs(join(0, 2, 2), join(0, 1, 2))), change(bad, 2, pairs(join(1, 2, 2), join(0, 3, 2))),
		change(bad, 2, pairs(join(1, 0, 2)), force(0, 0), forbid(3, 3)),
		change(bad, 3, force(4)), change(bad, 3, force(-1)), change(bad, 3, force(0, 0)), change(bad, 3, force(3, 0)), change(bad, 3, force(least)), change(bad, 3, force(most)),
		change(bad, 3, force(0, 1, 9), forbid(0)), change(bad, 3, pairs(), force(0)),
		change(bad, 4, forbid(4)), change(bad, 4, forbid(-1)), change(bad, 4, forbid(1, 1)), change(bad, 4, forbid(2, 1)), change(bad, 4, force(1), forbid(0, 1, 2)), change(bad, 4, force(0, 3), forbid(3)),
		change(bad, 4, force(0, 1), forbid(0)),
		change(bad, 5, force(0, 1)), change(bad, 5, force(0, 2)), change(bad, 5, force(1, 3)), change(bad, 5, force(2, 3)), change(bad, 5, force(0, 1), forbid(2)),
	}
}

// R1, R2: conditions in their order, and problems at the limits.
func TestCheck(t *testing.T) {
	for i, x := range flaws() {
		if e, n := readings.Check(x.p); e != x.e || n != x.want || readings.Valid(x.p) {
			t.Error(i, x.p, e, n)
		}
	}
	for _, p := range []api.Problem{
		{}, sample(), force(sample(), 0, 3), forbid(sample(), 0, 1, 2, 3), forbid(force(sample(), 1), 0, 2, 3), {Alone: []int{0, api.MaxCost}, Pairs: []api.Pair{join(0, 1, api.MaxCost)}},
		{Alone: make([]int, api.MaxNodes)}, full(64, always(api.MaxCost), always(api.MaxCost)), path(api.MaxNodes, 1), pairsAtLimit(),
	} {
		if e, n := readings.Check(p); e != api.OK || n != 0 || !readings.Valid(p) {
			t.Error(p, e, n)
		}
	}
}

// pairsAtLimit returns a problem with MaxPairs pairs.
func pairsAtLimit() api.Problem {
	p := full(90, always(1), always(1))
	p.Pairs = p.Pairs[:api.MaxPairs]
	return p
}

// partsOf returns the parts of a problem, found by letting what hangs together grow.
func partsOf(p api.Problem) [][]int {
	of := make([]int, len(p.Alone))
	for v := range of {
		of[v] = v
	}
	for range p.Alone {
		for i, x := range p.Pairs {
			if !slices.Contains(p.Forbid, i) {
				of[x.A] = min(of[x.A], of[x.B])
				of[x.B] = of[x.A]
			}
		}
	}
	var all [][]int
	for v := range of {
		var l []int
		for w := range of {
			if of[w] == v {
				l = append(l, w)
			}
		}
		if len(l) > 0 {
			all = append(all, l)
		}
	}
	return all
}

// R3: parts; pairs that are forced join nodes, forbidden ones do not.
func TestParts(t *testing.T) {
	two := row(2, sample())
	for _, x := range []struct {
		p    api.Problem
		want [][]int
	}{
		{api.Problem{}, nil},
		{sample(), [][]int{{0, 1, 2, 3}}},
		{forbid(sample(), 0, 3), [][]int{{0, 3}, {1, 2}}},
		{forbid(sample(), 0, 1), [][]int{{0}, {1, 2, 3}}},
		{forbid(sample(), 0, 1, 2, 3), [][]int{{0}, {1}, {2}, {3}}},
		{force(sample(), 0, 3), [][]int{{0, 1, 2, 3}}},
		{force(forbid(sample(), 1, 2), 0, 3), [][]int{{0, 1}, {2, 3}}},
		{api.Problem{Alone: []int{1, 2, 3}}, [][]int{{0}, {1}, {2}}},
		{two, [][]int{{0, 1, 2, 3}, {4, 5, 6, 7}}},
		{api.Problem{Alone: make([]int, 5), Pairs: []api.Pair{join(0, 4, 1), join(1, 3, 1)}}, [][]int{{0, 4}, {1, 3}, {2}}},
		{api.Problem{Alone: make([]int, 6), Pairs: []api.Pair{join(0, 5, 1), join(1, 4, 1), join(2, 3, 1), join(3, 5, 1)}}, [][]int{{0, 2, 3, 5}, {1, 4}}},
	} {
		if l, e := readings.Parts(x.p); !sameLists(l, x.want) || e != api.OK {
			t.Error(x, l, e)
		}
	}
	r := rand.New(rand.NewPCG(5, 3))
	for range 500 {
		p := chance{12, 10, 3, 30}.problem(r)
		if l, e := readings.Parts(p); !sameLists(l, partsOf(p)) || e != api.OK {
			t.Fatal(p, l, e)
		}
	}
	if l, e := readings.Parts(path(api.MaxNodes, 1)); len(l) != 1 || len(l[0]) != api.MaxNodes || e != api.OK {
		t.Error(len(l), e)
	}
}

// R4: problems of some nodes.
func TestOnly(t *testing.T) {
	p := forbid(force(sample(), 3), 1)
	p.Alone = []int{4, 5, 6, 7}
	for _, x := range []struct {
		nodes   []int
		want    api.Problem
		indices []int
	}{
		{nil, api.Problem{}, nil},
		{[]int{0, 1, 2, 3}, p, []int{0, 1, 2, 3}},
		{[]int{2}, api.Problem{Alone: []int{6}}, nil},
		{[]int{0, 3}, api.Problem{Alone: []int{4, 7}, Pairs: []api.Pair{join(0, 1, 4)}, Forbid: []int{0}}, []int{1}},
		{[]int{1, 2, 3}, api.Problem{Alone: []int{5, 6, 7}, Pairs: []api.Pair{join(0, 1, 4), join(1, 2, 6)}, Force: []int{1}}, []int{2, 3}},
		{[]int{0, 2, 3}, api.Problem{Alone: []int{4, 6, 7}, Pairs: []api.Pair{join(0, 2, 4), join(1, 2, 6)}, Force: []int{1}, Forbid: []int{0}}, []int{1, 3}},
		{[]int{0, 2}, api.Problem{Alone: []int{4, 6}}, nil},
	} {
		q, l, e := readings.Only(p, x.nodes)
		if !same(q, x.want) || !slices.Equal(l, x.indices) || e != api.OK {
			t.Error(x, q, l, e)
		}
	}
	for _, nodes := range [][]int{{-1}, {4}, {0, 0}, {1, 0}, {0, 1, 2, 3, 4}, {least}, {most}, {0, 1, 1}} {
		if q, l, e := readings.Only(p, nodes); !same(q, api.Problem{}) || len(l) > 0 || e != api.ErrArg {
			t.Error(nodes, q, l, e)
		}
	}
	// A large problem has problems of its nodes, too.
	if q, l, e := readings.Only(hung(20), []int{2, 3}); !same(q, api.Problem{Alone: make([]int, 2), Pairs: []api.Pair{join(0, 1, 0)}}) || !slices.Equal(l, []int{21}) || e != api.OK {
		t.Error(q, l, e)
	}
}

// R4: what is kept of random problems is what all of their pairs say.
func TestOnlyOfRandom(t *testing.T) {
	r := rand.New(rand.NewPCG(5, 4))
	for range 300 {
		p := chance{9, 14, 5, 40}.problem(r)
		var nodes []int
		for v := range p.Alone {
			if r.IntN(3) > 0 {
				nodes = append(nodes, v)
			}
		}
		q, l, e := readings.Only(p, nodes)
		if e != api.OK || !readings.Valid(q) || len(q.Alone) != len(nodes) || len(l) != len(q.Pairs) {
			t.Fatal(p, nodes, q, l, e)
		}
		for i, v := range nodes {
			if q.Alone[i] != p.Alone[v] {
				t.Fatal(p, nodes, q)
			}
		}
		for i, x := range p.Pairs {
			k := slices.Index(l, i)
			if inside := slices.Contains(nodes, x.A) && slices.Contains(nodes, x.B); inside != (k >= 0) {
				t.Fatal(p, nodes, q, l)
			}
			if k >= 0 && (join(nodes[q.Pairs[k].A], nodes[q.Pairs[k].B], q.Pairs[k].Cost) != x || slices.Contains(q.Force, k) != slices.Contains(p.Force, i) || slices.Contains(q.Forbid, k) != slices.Contains(p.Forbid, i)) {
				t.Fatal(p, nodes, q, l)
			}
		}
	}
}

// R5: the number of readings of the greatest part, up to MaxSpace.
func TestSpace(t *testing.T) {
	star := api.Problem{Alone: make([]int, api.MaxNodes)}
	for v := 1; v < api.MaxNodes; v++ {
		star.Pairs = append(star.Pairs, join(0, v, 1))
	}
	halves := path(api.MaxNodes, 1)
	for i := 0; i < len(halves.Pairs); i += 2 {
		halves.Force = append(halves.Force, i)
	}
	for _, x := range []struct {
		p    api.Problem
		want int
	}{
		{api.Problem{}, 1}, {api.Problem{Alone: []int{1, 2}}, 1}, {sample(), 7}, {force(sample(), 0), 2}, {force(sample(), 0, 3), 1}, {forbid(sample(), 1), 5}, {forbid(sample(), 0, 3), 2}, {forbid(sample(), 0, 1, 2, 3), 1},
		{row(300, sample()), 7}, {hung(0), 1}, {hung(1), 2}, {hung(16), api.MaxSpace}, {row(2, hung(16)), api.MaxSpace}, {path(23, 0), 46368}, {row(80, path(23, 0)), 46368},
		{full(10, always(0), always(0)), 9496}, {full(11, always(0), always(0)), 35696}, {star, api.MaxNodes}, {halves, 1},
	} {
		if n, e := readings.Space(x.p); n != x.want || e != api.OK {
			t.Error(x.want, n, e)
		}
	}
}

// larges returns problems that are large.
func larges() []api.Problem {
	return []api.Problem{hung(17), path(24, 0), path(api.MaxNodes, 1), full(12, always(0), always(1)), pairsAtLimit(), beside(sample(), sample(), path(24, 1)), beside(path(24, 1), sample()), row(40, full(14, always(1), always(1)))}
}

// Errors: problems that are large, for all functions; and their order.
func TestLarge(t *testing.T) {
	for i, p := range larges() {
		if e, _ := readings.Check(p); e != api.OK {
			t.Fatal(i, e)
		}
		space, e := readings.Space(p)
		cost, f := readings.Least(p)
		first, g := readings.First(p)
		next, h := readings.Next(p, p.Force)
		if space != 0 || cost != 0 || len(first) > 0 || len(next) > 0 || e != api.ErrLimit || f != api.ErrLimit || g != api.ErrLimit || h != api.ErrLimit {
			t.Error(i, space, e, cost, f, first, g, next, h)
		}
		count, e := readings.Count(p)
		statuses, f := readings.Statuses(p)
		with, g := readings.With(p, 1)
		without, h := readings.Without(p, 1)
		if count != 0 || len(statuses) > 0 || len(with) > 0 || len(without) > 0 || e != api.ErrLimit || f != api.ErrLimit || g != api.ErrLimit || h != api.ErrLimit {
			t.Error(i, count, e, statuses, f, with, g, without, h)
		}
		margin, e := readings.Margin(p, 1)
		proof, bound, f := readings.Prove(p)
		if margin != 0 || bound != 0 || !isZero(proof) || e != api.ErrLimit || f != api.ErrLimit {
			t.Error(i, margin, e, proof, bound, f)
		}
		if l, e := readings.Parts(p); len(l) == 0 || e != api.OK {
			t.Error(i, l, e)
		}
		if n, e := readings.Cost(p, p.Force); n != costOf(p, p.Force) || e != api.OK {
			t.Error(i, n, e)
		}
		if e, n := readings.CheckProof(p, 0, api.Proof{Kind: api.ProofPrices, Prices: make([]int, len(p.Alone))}); n != 1 || e != api.OK {
			t.Error(i, e, n)
		}
		// What is wrong with the other arguments comes ahead.
		for _, k := range []int{-1, len(p.Pairs)} {
			_, e := readings.With(p, k)
			_, f := readings.Without(p, k)
			_, g := readings.Margin(p, k)
			if e != api.ErrArg || f != api.ErrArg || g != api.ErrArg {
				t.Error(i, k, e, f, g)
			}
		}
		if _, e := readings.Next(p, []int{-1}); e != api.ErrReading {
			t.Error(i, e)
		}
	}
}

// isZero reports whether a proof is zero.
func isZero(x api.Proof) bool {
	return x.Kind == 0 && x.Pair == 0 && len(x.Prices) == 0 && len(x.Kids) == 0
}

// Errors: the error of Check comes ahead of all others, for all functions.
func TestFlaws(t *testing.T) {
	for _, x := range flaws() {
		p := x.p
		_, errs := readings.Parts(p)
		q, l, e := readings.Only(p, []int{9, -1})
		if errs != x.e || e != x.e || len(l) > 0 || !same(q, api.Problem{}) {
			t.Error(p, errs, e, q, l)
		}
		var all []api.Errno
		add := func(zero bool, e api.Errno) {
			if !zero {
				t.Error(p, len(all), e)
			}
			all = append(all, e)
		}
		n, e := readings.Space(p)
		add(n == 0, e)
		n, e = readings.Cost(p, []int{-1})
		add(n == 0, e)
		n, e = readings.Least(p)
		add(n == 0, e)
		r, e := readings.First(p)
		add(len(r) == 0, e)
		r, e = readings.Next(p, []int{-1})
		add(len(r) == 0, e)
		n, e = readings.Count(p)
		add(n == 0, e)
		r, e = readings.Statuses(p)
		add(len(r) == 0, e)
		r, e = readings.With(p, -1)
		add(len(r) == 0, e)
		r, e = readings.Without(p, -1)
		add(len(r) == 0, e)
		n, e = readings.Margin(p, -1)
		add(n == 0, e)
		proof, n, e := readings.Prove(p)
		add(n == 0 && isZero(proof), e)
		e, n = readings.CheckProof(p, 0, endless())
		add(n == 0, e)
		for i, e := range all {
			if e != x.e {
				t.Error(p, i, e, "want", x.e)
			}
		}
	}
}

// R6: readings and lists that are none.
func TestCost(t *testing.T) {
	for _, x := range []struct {
		p    api.Problem
		r    []int
		want int
		e    api.Errno
	}{
		{sample(), nil, 20, api.OK}, {sample(), []int{0, 3}, 8, api.OK}, {sample(), []int{1, 2}, 8, api.OK}, {sample(), []int{0}, 12, api.OK}, {sample(), []int{3}, 16, api.OK},
		{api.Problem{}, nil, 0, api.OK}, {api.Problem{Alone: []int{3, 4}}, nil, 7, api.OK},
		{force(sample(), 0), []int{0}, 12, api.OK}, {force(sample(), 0), []int{0, 3}, 8, api.OK}, {forbid(sample(), 0), []int{1, 2}, 8, api.OK},
		{sample(), []int{0, 1}, 0, api.ErrReading}, {sample(), []int{0, 2}, 0, api.ErrReading}, {sample(), []int{3, 0}, 0, api.ErrReading}, {sample(), []int{0, 0}, 0, api.ErrReading}, {sample(), []int{4}, 0, api.ErrReading}, {sample(), []int{-1}, 0, api.ErrReading}, {sample(), []int{0, most}, 0, api.ErrReading}, {sample(), []int{least}, 0, api.ErrReading},
		{force(sample(), 0), nil, 0, api.ErrReading}, {force(sample(), 0), []int{3}, 0, api.ErrReading}, {force(sample(), 0), []int{1, 2}, 0, api.ErrReading}, {forbid(sample(), 0), []int{0}, 0, api.ErrReading}, {forbid(sample(), 0), []int{0, 3}, 0, api.ErrReading}, {api.Problem{}, []int{0}, 0, api.ErrReading},
		{path(api.MaxNodes, api.MaxCost), nil, api.MaxNodes * api.MaxCost, api.OK},
	} {
		if n, e := readings.Cost(x.p, x.r); n != x.want || e != x.e {
			t.Error(x, n, e)
		}
		if x.e == api.ErrReading {
			if r, e := readings.Next(x.p, x.r); len(r) > 0 || e != x.e {
				t.Error(x, r, e)
			}
		}
	}
}

// R6: all lists of some pairs of small problems.
func TestAllCosts(t *testing.T) {
	r := rand.New(rand.NewPCG(5, 6))
	for range 200 {
		p := chance{5, 6, 4, 30}.problem(r)
		for set := range 1 << len(p.Pairs) {
			var l []int
			for i := range p.Pairs {
				if set>>i&1 == 1 {
					l = append(l, i)
				}
			}
			n, e := readings.Cost(p, l)
			if is := isReading(p, l); is && (n != costOf(p, l) || e != api.OK) || !is && (n != 0 || e != api.ErrReading) {
				t.Fatal(p, l, n, e)
			}
		}
	}
}
