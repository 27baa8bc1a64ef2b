package readings_test

import (
	"math/rand/v2"
	"slices"
	"testing"

	"pileup/api"
	"pileup/readings"
)

// prices, clash and branch are short ways to write proofs.
func prices(l ...int) api.Proof { return api.Proof{Kind: api.ProofPrices, Prices: l} }
func clash() api.Proof          { return api.Proof{Kind: api.ProofClash} }
func branch(pair int, kids ...api.Proof) api.Proof {
	return api.Proof{Kind: api.ProofBranch, Pair: pair, Kids: kids}
}

// endless returns a proof that is its own kid.
func endless() api.Proof {
	kids := make([]api.Proof, 2)
	kids[0] = branch(0, kids...)
	kids[1] = branch(0, kids...)
	return kids[0]
}

// chain returns a proof of n nodes below one another.
func chain(n int) api.Proof {
	x := clash()
	for range n - 1 {
		x = branch(0, x)
	}
	return x
}

// wide returns a proof of n nodes, all but one of them leaves.
func wide(n int) api.Proof { return branch(0, slices.Repeat([]api.Proof{clash()}, n-1)...) }

// doubled returns a tree with n levels below its root, whose nodes share memory.
func doubled(n int) api.Proof {
	x := clash()
	for range n {
		x = branch(0, x, x)
	}
	return x
}

// R17: trees of up to MaxTree nodes, and greater ones.
func TestNodes(t *testing.T) {
	for _, x := range []struct {
		proof api.Proof
		want  int
	}{
		{api.Proof{}, 1}, {prices(1, 2, 3), 1}, {branch(3, clash(), prices()), 3}, {branch(0, branch(1, clash(), clash()), clash(), clash()), 6}, {api.Proof{Kind: 77, Kids: []api.Proof{{}}}, 2},
		{chain(api.MaxTree), api.MaxTree}, {chain(api.MaxTree + 1), api.MaxTree + 1}, {chain(api.MaxTree + 2), api.MaxTree + 1}, {chain(3 * api.MaxTree), api.MaxTree + 1},
		{wide(api.MaxTree), api.MaxTree}, {wide(api.MaxTree + 1), api.MaxTree + 1}, {wide(api.MaxTree + 2), api.MaxTree + 1},
		{doubled(16), 1<<17 - 1}, {doubled(17), api.MaxTree + 1}, {doubled(200), api.MaxTree + 1}, {endless(), api.MaxTree + 1},
		{branch(0, chain(api.MaxTree/2), wide(api.MaxTree/2-1)), api.MaxTree}, {branch(0, chain(api.MaxTree/2), wide(api.MaxTree/2)), api.MaxTree + 1}, {branch(0, chain(api.MaxTree/2), wide(api.MaxTree/2), clash()), api.MaxTree + 1},
	} {
		if n := readings.Nodes(x.proof); n != x.want {
			t.Error(n, "want", x.want)
		}
	}
}

// triangle returns three nodes whose prices alone do not prove what they cost: 2, though no prices add up to more than 1.
func triangle() api.Problem {
	return api.Problem{Alone: []int{1, 1, 1}, Pairs: []api.Pair{join(0, 1, 1), join(0, 2, 1), join(1, 2, 1)}}
}

// R16: the examples, and proofs that are wrong at one place.
func TestCheckProof(t *testing.T) {
	one := api.Problem{Alone: []int{3, 4}, Pairs: []api.Pair{join(0, 1, 5)}}
	three := branch(0, prices(0, 0, 1), branch(1, prices(0, 1, 0), prices(1, 0, 1)))
	for i, x := range []struct {
		p     api.Problem
		cost  int
		proof api.Proof
		want  int
	}{
		{sample(), 8, prices(0, 2, 2, 4), 1}, {sample(), 9, prices(0, 2, 2, 4), 0}, {sample(), least, prices(0, 2, 2, 4), 1}, {sample(), most, prices(0, 2, 2, 4), 0}, {sample(), -1, prices(0, 0, 0, 0), 1}, {sample(), 7, prices(0, 2, 2, 3), 1},
		{sample(), 8, prices(0, 2, 2, 5), 0}, {sample(), 8, prices(1, 2, 2, 4), 0}, {sample(), 8, prices(0, 2, 3, 4), 0}, {sample(), 0, prices(6, -4, 0, -2), 0}, {sample(), 0, prices(5, -3, 5, -1), 1},
		{sample(), 8, prices(0, 2, 2), 0}, {sample(), 0, prices(0, 2, 2), 0}, {sample(), 0, prices(0, 2, 2, 4, 0), 0}, {sample(), 0, prices(), 0},
		{sample(), -most, prices(-api.MaxCost, 0, 0, 0), 1}, {sample(), -most, prices(-api.MaxCost-1, 0, 0, 0), 0}, {sample(), -most, prices(least, 0, 0, 0), 0}, {sample(), -most, prices(0, most, 0, 0), 0}, {sample(), -most, prices(least, most, least, most), 0},
		{sample(), 0, api.Proof{}, 0}, {sample(), 0, api.Proof{Kind: 4, Prices: []int{0, 2, 2, 4}}, 0}, {sample(), 0, api.Proof{Kind: -1}, 0}, {sample(), 0, clash(), 0}, {sample(), least, clash(), 0},
		{sample(), 8, api.Proof{Kind: api.ProofPrices, Prices: []int{0, 2, 2, 4}, Pair: 1}, 0}, {sample(), 8, api.Proof{Kind: api.ProofPrices, Prices: []int{0, 2, 2, 4}, Kids: []api.Proof{clash()}}, 0},
		// Alone, taken and out.
		{api.Problem{}, 0, prices(), 1}, {api.Problem{}, 1, prices(), 0}, {api.Problem{}, 0, api.Proof{}, 0}, {api.Problem{Alone: []int{7}}, 7, prices(7), 1}, {api.Problem{Alone: []int{7}}, 7, prices(8), 0},
		{one, 5, prices(3, 2), 1}, {one, 5, prices(1, 4), 1}, {one, 5, prices(3, 3), 0}, {one, 5, branch(0, prices(0, 0), prices(3, 4)), 2}, {one, 5, branch(0, prices(3, 4), prices(3, 2)), 2}, {one, 5, branch(0, prices(api.MaxCost, -api.MaxCost), prices(3, 2)), 2}, {one, 5, branch(0, prices(api.MaxCost+1, 0), prices(3, 2)), 0}, {one, 5, branch(0, prices(0, -api.MaxCost-1), prices(3, 2)), 0},
		{one, 6, branch(0, prices(0, 0), prices(3, 4)), 0}, {one, 5, branch(0, prices(3, 4), prices(3, 1)), 0}, {one, 5, branch(0, prices(0, 0), prices(4, 4)), 0}, {one, 5, branch(0, prices(0, 0)), 0}, {one, 5, branch(0), 0}, {one, 5, branch(0, prices(0, 0), prices(3, 4), prices(3, 4)), 0}, {one, 5, branch(1, prices(0, 0), prices(3, 4)), 0}, {one, 5, branch(-1, prices(0, 0), prices(3, 4)), 0}, {one, 5, branch(most, prices(0, 0), prices(3, 4)), 0}, {one, 5, branch(least, prices(0, 0), prices(3, 4)), 0},
		{one, 5, api.Proof{Kind: api.ProofBranch, Prices: []int{0}, Kids: []api.Proof{prices(0, 0), prices(3, 4)}}, 0}, {one, 5, branch(0, branch(0, prices(0, 0), prices(0, 0)), prices(3, 4)), 0}, {one, 5, branch(0, prices(0, 0), branch(0, prices(3, 4), prices(3, 4))), 0}, {one, 0, branch(0, clash(), prices(3, 4)), 0}, {one, 0, branch(0, prices(0, 0), clash()), 0}, {one, 5, branch(0, api.Proof{}, prices(3, 4)), 0},
		// Force and Forbid.
		{forbid(one, 0), 7, prices(3, 4), 1}, {forbid(one, 0), 8, prices(3, 5), 0}, {forbid(one, 0), 99, branch(0, clash(), prices(3, 4)), 0}, {forbid(one, 0), 7, branch(0, clash(), prices(3, 4)), 2}, {forbid(one, 0), 5, branch(0, prices(0, 0), prices(3, 4)), 2}, {force(one, 0), 5, branch(0, prices(0, 0), clash()), 2}, {force(one, 0), 6, branch(0, prices(0, 0), clash()), 0}, {force(one, 0), 5, branch(0, clash(), clash()), 0}, {force(one, 0), 5, branch(0, prices(0, 0), prices(3, 4)), 2}, {force(one, 0), 5, prices(3, 2), 1}, {force(one, 0), 5, prices(3, 4), 0},
		{force(one, 0), 5, branch(0, prices(0, 0), api.Proof{Kind: api.ProofClash, Pair: 1}), 0}, {force(one, 0), 5, branch(0, prices(0, 0), api.Proof{Kind: api.ProofClash, Prices: []int{3, 4}}), 0}, {force(one, 0), 5, branch(0, prices(0, 0), api.Proof{Kind: api.ProofClash, Kids: []api.Proof{clash()}}), 0},
		{force(one, 0), most, clash(), 0}, {force(sample(), 0), 12, branch(0, prices(0, 0, 5, 1), clash()), 0}, {force(sample(), 0), 8, branch(0, prices(0, 0, 5, 1), clash()), 2}, {force(sample(), 0), 8, branch(0, prices(0, 0, 5, 2), clash()), 0},
		// Pairs that meet.
		{triangle(), 1, prices(1, 0, 0), 1}, {triangle(), 2, prices(1, 0, 0), 0}, {triangle(), 2, prices(1, 1, 0), 0}, {triangle(), 2, three, 3}, {triangle(), 3, three, 0},
		{triangle(), 2, branch(0, branch(1, clash(), prices(0, 0, 1)), branch(1, prices(0, 1, 0), prices(1, 0, 1))), 4}, {triangle(), 2, branch(0, branch(1, prices(0, 0, 1), prices(0, 0, 1)), branch(1, prices(0, 1, 0), prices(1, 0, 1))), 0}, {triangle(), 2, branch(0, branch(1, clash(), clash()), branch(1, prices(0, 1, 0), prices(1, 0, 1))), 0},
		{triangle(), 2, branch(0, prices(9, 9, 1), branch(1, prices(9, 1, 9), prices(1, 0, 1))), 3}, {triangle(), 2, branch(0, prices(9, 9, 1), branch(1, prices(9, 1, 9), prices(1, 1, 1))), 0}, {triangle(), 2, branch(0, prices(9, 9, 2), branch(1, prices(9, 1, 9), prices(1, 0, 1))), 0},
	} {
		e, n := readings.CheckProof(x.p, x.cost, x.proof)
		if x.want > 0 && (n != x.want || e != api.OK) || x.want == 0 && (n != 0 || e != api.ErrProof) {
			t.Error(i, x, e, n)
		}
	}
	for _, x := range []api.Proof{endless(), wide(api.MaxTree + 1), chain(api.MaxTree + 1), doubled(100)} {
		if e, n := readings.CheckProof(sample(), 0, x); n != 0 || e != api.ErrLimit {
			t.Error(e, n)
		}
	}
	for _, x := range []api.Proof{wide(api.MaxTree), chain(api.MaxTree), doubled(16)} {
		if e, n := readings.CheckProof(sample(), 0, x); n != 0 || e != api.ErrProof {
			t.Error(e, n)
		}
	}
}

// proves reports whether a proof shows that a number is least, given the pairs that are taken and out, by the words of the document; and how many leaves it has.
func proves(p api.Problem, cost int, x api.Proof, taken, out []int) (bool, int) {
	covered := map[int]bool{}
	meets, lost := false, false
	for _, i := range taken {
		for _, k := range taken {
			meets = meets || i != k && meet(p.Pairs[i], p.Pairs[k])
		}
		covered[p.Pairs[i].A], covered[p.Pairs[i].B] = true, true
		lost = lost || slices.Contains(p.Forbid, i)
	}
	for _, i := range out {
		lost = lost || slices.Contains(p.Force, i)
	}
	switch x.Kind {
	case api.ProofBranch:
		i := x.Pair
		if len(x.Prices) > 0 || len(x.Kids) != 2 || i < 0 || i >= len(p.Pairs) || slices.Contains(taken, i) || slices.Contains(out, i) {
			return false, 0
		}
		with, n := proves(p, cost, x.Kids[0], append(slices.Clip(taken), i), out)
		without, m := proves(p, cost, x.Kids[1], taken, append(slices.Clip(out), i))
		return with && without, n + m
	case api.ProofClash:
		return x.Pair == 0 && len(x.Prices) == 0 && len(x.Kids) == 0 && (meets || lost), 1
	case api.ProofPrices:
	default:
		return false, 0
	}
	if x.Pair != 0 || len(x.Kids) > 0 || len(x.Prices) != len(p.Alone) || meets {
		return false, 0
	}
	sum := 0
	for v, price := range x.Prices {
		if price < -api.MaxCost || price > api.MaxCost || !covered[v] && price > p.Alone[v] {
			return false, 0
		}
		if !covered[v] {
			sum += price
		}
	}
	for i, y := range p.Pairs {
		switch {
		case slices.Contains(taken, i):
			sum += y.Cost
		case slices.Contains(out, i) || slices.Contains(p.Forbid, i) || covered[y.A] || covered[y.B]:
		case x.Prices[y.A]+x.Prices[y.B] > y.Cost:
			return false, 0
		}
	}
	return sum >= cost, 1
}

// plain returns a proof that branches on all pairs from one on.
func plain(p api.Problem, pair int, taken []int) api.Proof {
	for _, i := range taken {
		for _, k := range taken {
			if i != k && meet(p.Pairs[i], p.Pairs[k]) {
				return clash()
			}
		}
		if slices.Contains(p.Forbid, i) {
			return clash()
		}
	}
	if pair < len(p.Pairs) {
		without := plain(p, pair+1, taken)
		if slices.Contains(p.Force, pair) {
			without = clash()
		}
		return branch(pair, plain(p, pair+1, append(slices.Clip(taken), pair)), without)
	}
	return prices(p.Alone...)
}

// placesOf returns all nodes of a proof.
func placesOf(x *api.Proof) []*api.Proof {
	l := []*api.Proof{x}
	for i := range x.Kids {
		l = append(l, placesOf(&x.Kids[i])...)
	}
	return l
}

// clone returns a proof with memory of its own.
func clone(x api.Proof) api.Proof {
	x.Prices = slices.Clone(x.Prices)
	x.Kids = slices.Clone(x.Kids)
	for i := range x.Kids {
		x.Kids[i] = clone(x.Kids[i])
	}
	return x
}

// sameProof reports whether two proofs are equal.
func sameProof(x, y api.Proof) bool {
	return x.Kind == y.Kind && x.Pair == y.Pair && slices.Equal(x.Prices, y.Prices) && slices.EqualFunc(x.Kids, y.Kids, sameProof)
}

// spoil changes a proof at one place.
func spoil(r *rand.Rand, p api.Problem, x *api.Proof) {
	all := placesOf(x)
	y := all[r.IntN(len(all))]
	z := clone(*all[r.IntN(len(all))])
	switch r.IntN(8) {
	case 0:
		y.Kind = r.IntN(5)
	case 1:
		y.Pair = r.IntN(len(p.Pairs)+3) - 1
	case 2, 3, 4:
		if len(y.Prices) > 0 {
			y.Prices[r.IntN(len(y.Prices))] += r.IntN(5) - 2
		}
	case 5:
		if len(y.Kids) > 0 {
			slices.Reverse(y.Kids)
		}
	case 6:
		*y = z
	case 7:
		switch r.IntN(3) {
		case 0:
			y.Kids = append(y.Kids, z)
		case 1:
			y.Prices = append(y.Prices, 0)
		default:
			y.Kids = y.Kids[:len(y.Kids)/2]
		}
	}
}

// P5.5, R15, R16: proofs of small problems for the least cost and others, as Prove and others make them, whole and spoilt, held against the words of the document.
func TestProofs(t *testing.T) {
	r := rand.New(rand.NewPCG(5, 5))
	accepted, refused, branched := 0, 0, 0
	for _, c := range chances() {
		for range 150 {
			p := c.problem(r)
			_, want := leastOf(p, allReadings(p))
			x, cost, e := readings.Prove(p)
			if cost != want || e != api.OK {
				t.Fatal(p, cost, e, "want", want)
			}
			if len(x.Kids) > 0 {
				branched++
			}
			for _, y := range []api.Proof{x, plain(p, 0, nil)} {
				if ok, n := proves(p, cost, y, nil, nil); !ok || !holdProof(t, p, cost, y, ok, n) || holdProof(t, p, cost+1, y, false, 0) {
					t.Fatal(p, cost, y)
				}
				for range 20 {
					z := clone(y)
					spoil(r, p, &z)
					number := cost + r.IntN(5) - 2
					ok, n := proves(p, number, z, nil, nil)
					if holdProof(t, p, number, z, ok, n) {
						accepted++
					} else {
						refused++
					}
					if ok && number > cost {
						t.Fatal(p, number, z)
					}
				}
			}
		}
	}
	if accepted < 2000 || refused < 2000 || branched < 50 {
		t.Error(accepted, refused, branched)
	}
}

// holdProof holds what CheckProof says of a proof against what is to be said, and reports whether it accepts it.
func holdProof(t *testing.T, p api.Problem, cost int, x api.Proof, ok bool, leaves int) bool {
	t.Helper()
	keptProblem, keptProof := copyOf(p), clone(x)
	e, n := readings.CheckProof(p, cost, x)
	if ok && (n != leaves || e != api.OK) || !ok && (n != 0 || e != api.ErrProof) {
		t.Fatal(p, cost, x, e, n, "want", ok, leaves)
	}
	if !same(p, keptProblem) || !sameProof(x, keptProof) {
		t.Fatal(p, x)
	}
	return e == api.OK
}

// readingsOf returns the number of all readings of a problem, as its parts say.
func readingsOf(t *testing.T, p api.Problem) int {
	t.Helper()
	parts, e := readings.Parts(p)
	n := 1
	for _, nodes := range parts {
		q, _, f := readings.Only(p, nodes)
		m, g := readings.Space(q)
		if e+f+g != api.OK {
			t.Fatal(p, e, f, g)
		}
		if n *= m; n > 4096 {
			return n
		}
	}
	return n
}

// R15: whatever their prices, problems with at most 4096 readings have a proof.
func TestProveUpTo4096(t *testing.T) {
	r := rand.New(rand.NewPCG(5, 15))
	odd := func() int { return 2*r.IntN(3) + 1 }
	some := func() int { return r.IntN(api.MaxCost + 1) }
	one := always(1)
	problems := []api.Problem{
		{}, {Alone: []int{4, 0}}, triangle(), row(6, triangle()), hung(12), row(2, hung(6)), row(3, full(4, one, one)), full(9, one, one), full(9, odd, odd), full(9, some, some), row(2, full(6, one, one)), row(2, full(6, odd, odd)), row(2, full(6, some, some)), row(4, sample()), path(17, 1), stars(62, 62, odd), stars(1900, 1, odd), stars(1998, 0, some),
	}
	// Nodes that are all decided, with one part behind them that prices alone do not prove.
	decided := row(900, force(api.Problem{Alone: []int{0, 0}, Pairs: []api.Pair{join(0, 1, 1)}}, 0))
	problems = append(problems, beside(decided, row(6, triangle())), beside(row(6, triangle()), decided), beside(full(9, one, one), decided, row(90, force(path(2, 0), 0))))
	for range 400 {
		problems = append(problems, knots(r, 5+r.IntN(6)))
	}
	for range 150 {
		problems = append(problems, chance{16, 22, 2, 25}.problem(r), chance{16, 30, 3, 50}.problem(r))
	}
	small := 0
	for i, p := range problems {
		want, e := readings.Least(p)
		x, cost, f := readings.Prove(p)
		if n := readingsOf(t, p); n > 4096 {
			continue
		}
		small++
		if cost != want || e+f != api.OK {
			t.Fatal(i, p, cost, want, e, f)
		}
		if e, n := readings.CheckProof(p, cost, x); e != api.OK || n > readings.Nodes(x) {
			t.Fatal(i, p, cost, e, n)
		}
		if e, n := readings.CheckProof(p, cost+1, x); e != api.ErrProof || n != 0 {
			t.Fatal(i, p, cost, e, n)
		}
	}
	if small < 150 {
		t.Error(small)
	}
}

// R15: great problems whose prices prove their least cost, and some that need more than MaxTree nodes.
func TestProveGreat(t *testing.T) {
	r := rand.New(rand.NewPCG(5, 16))
	some := func() int { return r.IntN(api.MaxCost + 1) }
	few := func() int { return r.IntN(6) }
	for i, p := range []api.Problem{row(500, sample()), row(80, path(23, 1)), row(80, path(23, 0)), stars(1960, 30, some), row(58, hung(16)), rows(160, func() api.Problem { return across(5, some, some) }), mixed(r, rows(160, func() api.Problem { return across(5, few, few) })), {Alone: slices.Repeat([]int{api.MaxCost}, api.MaxNodes)}} {
		want, e := readings.Least(p)
		x, cost, f := readings.Prove(p)
		if cost != want || e+f != api.OK {
			t.Fatal(i, cost, want, e, f)
		}
		if e, n := readings.CheckProof(p, cost, x); e != api.OK || n == 0 {
			t.Error(i, e, n)
		}
		if e, n := readings.CheckProof(p, cost+1, x); e != api.ErrProof || n != 0 {
			t.Error(i, e, n)
		}
	}
	// Each triangle needs a branch of its own, in each branch of the others: then there may be no proof. What there is, is one.
	lone := api.Problem{Alone: slices.Repeat([]int{1}, 1950)}
	for _, p := range []api.Problem{row(40, triangle()), row(600, triangle()), row(13, triangle()), row(16, triangle()), row(17, triangle()), beside(row(13, triangle()), lone), beside(row(14, triangle()), lone), beside(lone, row(16, triangle())), beside(row(14, knots(r, 5)), lone)} {
		want, e := readings.Least(p)
		x, cost, f := readings.Prove(p)
		if f == api.ErrLimit && isZero(x) && cost == 0 {
			continue
		}
		if g, n := readings.CheckProof(p, cost, x); cost != want || n == 0 || e+f+g != api.OK {
			t.Error(len(p.Pairs), readings.Nodes(x), cost, e, f, g)
		}
	}
}

// knots returns n nodes with many rings of an odd number of pairs.
func knots(r *rand.Rand, n int) api.Problem {
	p := full(n, func() int { return 1 + r.IntN(3) }, func() int { return 1 + r.IntN(3) })
	p.Pairs = slices.DeleteFunc(p.Pairs, func(api.Pair) bool { return r.IntN(3) == 0 })
	return p
}
