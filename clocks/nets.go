package clocks

import (
	"slices"

	"pileup/api"
)

// none stands for no edge.
const none = -1

// An edge is a bound between two places, which are numbers for refs.
type edge struct{ from, to, most int }

// A net is the bounds of a system as edges, in the same order. Its places are 0 for the beginning, and then one for each line.
type net struct {
	first  []int // the places of the beginning and of the first lines of all tracks
	places int
	edges  []edge
}

// A wave is the least sums of the edges on all ways from one place to each place, and the edges by which they came last.
type wave struct {
	edges []edge
	sums  []int
	by    []int
}

// A loop is edges with a sum less than 0, each one from where the one before it leads to.
type loop []int

// newNet returns the net of a valid system.
func newNet(s api.System) *net {
	n := &net{first: []int{0}, places: 1}
	for _, t := range s.Tracks {
		n.first = append(n.first, n.places)
		n.places += len(t.Times)
	}
	for b := range bounds(s) {
		n.edges = append(n.edges, edge{n.place(b.From), n.place(b.To), b.Most})
	}
	return n
}

// place returns the place of a ref.
func (n *net) place(r api.Ref) int { return n.first[r.Log+1] + r.Line }

// turned returns a net with all edges turned around.
func (n *net) turned() *net {
	t := *n
	t.edges = make([]edge, len(n.edges))
	for i, e := range n.edges {
		t.edges[i] = edge{e.to, e.from, e.most}
	}
	return &t
}

// spread returns the wave from a place; or a loop, if there is one.
func (n *net) spread(from api.Ref) (w *wave, l loop) {
	w = &wave{edges: n.edges, sums: make([]int, n.places), by: make([]int, n.places)}
	for i := range n.places {
		w.sums[i] = api.NoBound
		w.by[i] = none
	}
	w.sums[n.place(from)] = 0
	defer func() { l, _ = recover().(loop) }()
	w.relax()
	return w, nil
}

// relax lowers the sums until each one is the least. It leaves by a panic if there is a loop.
func (w *wave) relax() {
rounds:
	for {
		// In their own order the edges lead on along whole tracks, and in the opposite one back along them: each round goes at least to the next tie of all ways.
		for i := range w.edges {
			w.lower(i)
		}
		for i := range slices.Backward(w.edges) {
			w.lower(i)
		}
		for i := range w.edges {
			if w.lowers(i) {
				w.leaveByLoop()
				continue rounds
			}
		}
		return
	}
}

// lowers reports whether an edge leads to a lesser sum.
func (w *wave) lowers(i int) bool {
	e := w.edges[i]
	return w.sums[e.from] != api.NoBound && w.sums[e.from]+e.most < w.sums[e.to]
}

// lower goes on by an edge if it leads to a lesser sum.
func (w *wave) lower(i int) {
	if w.lowers(i) {
		e := w.edges[i]
		w.sums[e.to] = w.sums[e.from] + e.most
		w.by[e.to] = i
	}
}

// leaveByLoop panics with a loop if the edges by which the sums came contain one. They do at the latest when a sum becomes less than that of each way which visits no place twice.
func (w *wave) leaveByLoop() {
	walks := make([]int, len(w.sums))
	for start := range w.sums {
		at := start
		for walks[at] == 0 && w.by[at] != none {
			walks[at] = start + 1
			at = w.edges[w.by[at]].from
		}
		if walks[at] == start+1 {
			panic(loop(w.way(at, at)))
		}
	}
}

// way returns the edges by which the sum of a place came, from another place or from the start of the wave.
func (w *wave) way(from, to int) []int {
	var l []int
	for at := to; w.by[at] != none; {
		l = append(l, w.by[at])
		at = w.edges[w.by[at]].from
		if at == from {
			break
		}
	}
	slices.Reverse(l)
	return l
}
