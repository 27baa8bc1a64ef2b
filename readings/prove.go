package readings

import "pileup/api"

// maxPrices is how many prices the leaves of a proof have at most. There is room for a leaf for each of 4096 readings.
const maxPrices = 1 << 24

// A quote is the prices of the nodes of a part (0 for those in taken pairs), what its readings cost at least, and the pair to branch on because they may cost more (none: one of them costs no more).
type quote struct {
	prices    []int
	sum, pair int
}

// A prover makes a proof. It has the branching at the node that comes next, the quotes of all parts there, and their sum; the parts, and the indices of those that have a pair to branch on at the root; what readings cost at least; and how many nodes and prices there are.
type prover struct {
	*branching
	quotes        []quote
	sum           int
	parts         []*part
	gaps          []int
	least         int
	nodes, prices int
}

// newProver returns a prover for the solved parts of a problem.
func newProver(p api.Problem, parts []*part) *prover {
	v := &prover{branching: newBranching(p), parts: parts, least: total(parts)}
	v.quotes = inAll(parts, v.quote)
	for i, q := range v.quotes {
		v.sum += q.sum
		if q.pair != none {
			v.gaps = append(v.gaps, i)
		}
	}
	return v
}

// quote returns the quote of a part.
func (v *prover) quote(t *part) quote {
	choices := make([][]stay, len(t.nodes))
	for i, node := range t.nodes {
		choices[i] = []stay{{i, none, 0}}
		if v.cover[node] == 0 {
			choices[i][0].cost = 2 * v.problem.Alone[node]
		}
	}
	sum := 0
	for _, x := range t.pairs {
		cost := v.problem.Pairs[x.pair].Cost
		switch {
		case v.taken[x.pair]:
			sum += cost
		case v.open(x.pair):
			choices[x.a] = append(choices[x.a], stay{x.b, x.pair, cost})
			choices[x.b] = append(choices[x.b], stay{x.a, x.pair, cost})
		}
	}
	h := newHall(choices)
	prices, pair := h.prices()
	for _, price := range prices {
		sum += price
	}
	return quote{prices, sum, v.split(t, h, pair)}
}

// split returns the pair of a part to branch on, given its hall and the pair because of which its readings may cost more there. Pairs of Force come first: once they are taken, there are readings with and without each pair that is open, and a proof has no more leaves than there are readings.
func (v *prover) split(t *part, h *hall, pair int) int {
	for _, x := range t.pairs {
		if v.kinds[x.pair] == forced && v.open(x.pair) && (pair != none || !h.joins(x.a, x.b)) {
			return x.pair
		}
	}
	return pair
}

// gap returns the index of the part to branch in; none, if there is no such part.
func (v *prover) gap() int {
	first := none
	for _, i := range v.gaps {
		pair := v.quotes[i].pair
		if pair == none {
			continue
		}
		// What is forced is the same for all parts, and is said once, ahead of all other branches.
		if v.kinds[pair] == forced {
			return i
		}
		if first == none {
			first = i
		}
	}
	return first
}

// tree returns the proof from the next node on, and whether there is room for it.
func (v *prover) tree() (api.Proof, bool) {
	v.nodes++
	if v.sum >= v.least {
		return v.leaf()
	}
	i := v.gap()
	if i == none || v.nodes > api.MaxTree {
		return api.Proof{}, false
	}
	pair := v.quotes[i].pair
	with, ok := v.with(i, pair)
	if !ok {
		return api.Proof{}, false
	}
	without, ok := v.without(i, pair)
	return api.Proof{Kind: api.ProofBranch, Pair: pair, Kids: []api.Proof{with, without}}, ok
}

// with returns the proof that goes on with a pair of a part taken.
func (v *prover) with(i, pair int) (api.Proof, bool) {
	v.take(pair, 1)
	x, ok := v.below(i)
	v.take(pair, -1)
	return x, ok
}

// without returns the proof that goes on with a pair of a part out.
func (v *prover) without(i, pair int) (api.Proof, bool) {
	if v.kinds[pair] == forced {
		v.nodes++
		return api.Proof{Kind: api.ProofClash}, v.nodes <= api.MaxTree
	}
	v.out[pair] = true
	x, ok := v.below(i)
	v.out[pair] = false
	return x, ok
}

// below returns the proof that goes on after one more pair of a part is taken or out.
func (v *prover) below(i int) (api.Proof, bool) {
	before := v.quotes[i]
	v.quotes[i] = v.quote(v.parts[i])
	change := v.quotes[i].sum - before.sum
	v.sum += change
	x, ok := v.tree()
	v.sum -= change
	v.quotes[i] = before
	return x, ok
}

// leaf returns the leaf with the prices of all quotes, and whether there is room for it.
func (v *prover) leaf() (api.Proof, bool) {
	prices := make([]int, len(v.cover))
	v.prices += len(prices)
	if v.prices > maxPrices || v.nodes > api.MaxTree {
		return api.Proof{}, false
	}
	for i, t := range v.parts {
		for k, node := range t.nodes {
			prices[node] = v.quotes[i].prices[k]
		}
	}
	return api.Proof{Kind: api.ProofPrices, Prices: prices}, true
}

// Prove returns a proof of the least cost.
func Prove(p api.Problem) (api.Proof, int, api.Errno) {
	parts, e := solve(p)
	if e != api.OK {
		return api.Proof{}, 0, e
	}
	v := newProver(p, parts)
	x, ok := v.tree()
	if !ok {
		return api.Proof{}, 0, api.ErrLimit
	}
	return x, v.least, api.OK
}
