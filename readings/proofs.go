package readings

import (
	"slices"

	"pileup/api"
)

// A branching is what is said at a node of a proof: which pairs of a problem are taken, in how many of these each node is, and which pairs are out.
type branching struct {
	problem    api.Problem
	kinds      []int
	taken, out []bool
	cover      []int
}

// newBranching returns the branching at the root of a proof for a valid problem.
func newBranching(p api.Problem) *branching {
	return &branching{p, kindsOf(p), make([]bool, len(p.Pairs)), make([]bool, len(p.Pairs)), make([]int, len(p.Alone))}
}

// take takes a pair (n is 1), or takes it back (n is -1).
func (b *branching) take(i, n int) {
	x := b.problem.Pairs[i]
	b.taken[i] = n > 0
	b.cover[x.A] += n
	b.cover[x.B] += n
}

// open reports whether readings may still have or lack a pair that no taken one meets.
func (b *branching) open(i int) bool {
	x := b.problem.Pairs[i]
	return !b.taken[i] && !b.out[i] && b.kinds[i] != forbidden && b.cover[x.A] == 0 && b.cover[x.B] == 0
}

// apart reports whether no two taken pairs meet.
func (b *branching) apart() bool {
	return !slices.ContainsFunc(b.cover, func(n int) bool { return n > 1 })
}

// clashes reports whether no reading has all pairs that are taken and none that is out.
func (b *branching) clashes() bool {
	for i, kind := range b.kinds {
		if kind == forbidden && b.taken[i] || kind == forced && b.out[i] {
			return true
		}
	}
	return !b.apart()
}

// prove reports whether prices prove that all readings with the pairs that are taken, and without those that are out, cost at least a number.
func (b *branching) prove(prices []int, cost int) bool {
	if len(prices) != len(b.cover) || !b.apart() {
		return false
	}
	sum := 0
	for v, price := range prices {
		single := b.cover[v] == 0
		if !within(price, -api.MaxCost, api.MaxCost) || single && price > b.problem.Alone[v] {
			return false
		}
		if single {
			sum += price
		}
	}
	for i, x := range b.problem.Pairs {
		switch {
		case b.taken[i]:
			sum += x.Cost
		case b.open(i) && prices[x.A]+prices[x.B] > x.Cost:
			return false
		}
	}
	return sum >= cost
}

// check reports whether a proof with this branching at its root proves a number, and how many leaves it has.
func (b *branching) check(x api.Proof, cost int) (leaves int, ok bool) {
	switch x.Kind {
	case api.ProofBranch:
		return b.checkKids(x, cost)
	case api.ProofPrices:
		if !b.prove(x.Prices, cost) {
			return 0, false
		}
		fallthrough
	case api.ProofClash:
		shown := x.Kind == api.ProofPrices || len(x.Prices) == 0 && b.clashes()
		return 1, shown && x.Pair == 0 && len(x.Kids) == 0
	}
	return 0, false
}

// checkKids checks a proof that takes a pair in the one kid, and leaves it out in the other one.
func (b *branching) checkKids(x api.Proof, cost int) (leaves int, ok bool) {
	i := x.Pair
	if len(x.Prices) > 0 || len(x.Kids) != 2 || !within(i, 0, len(b.taken)-1) || b.taken[i] || b.out[i] {
		return 0, false
	}
	b.take(i, 1)
	with, okWith := b.check(x.Kids[0], cost)
	b.take(i, -1)
	if !okWith {
		return 0, false
	}
	b.out[i] = true
	without, okWithout := b.check(x.Kids[1], cost)
	b.out[i] = false
	return with + without, okWithout
}

// CheckProof returns OK if a proof shows that each reading costs at least a number, and the number of its leaves.
func CheckProof(p api.Problem, cost int, x api.Proof) (api.Errno, int) {
	if e, _ := Check(p); e != api.OK {
		return e, 0
	}
	if Nodes(x) > api.MaxTree {
		return api.ErrLimit, 0
	}
	leaves, ok := newBranching(p).check(x, cost)
	if !ok {
		return api.ErrProof, 0
	}
	return api.OK, leaves
}

// nodes returns the number of nodes of a proof, but at most this many.
func nodes(x api.Proof, most int) int {
	n := 1
	for _, kid := range x.Kids {
		if n == most {
			break
		}
		n += nodes(kid, most-n)
	}
	return n
}

// Nodes returns the number of nodes of a proof, but at most MaxTree + 1.
func Nodes(x api.Proof) int { return nodes(x, api.MaxTree+1) }
