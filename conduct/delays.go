package conduct

import (
	"slices"

	"pileup/api"
	"pileup/clocks"
	"pileup/readings"
)

// An edge is a bound between two places, which are numbers for the beginning and for lines.
type edge struct{ from, to, most int }

// A net is the bounds of a system as edges. clocks.Relation would go through all bounds for each two lines; a net does so once for each line.
type net struct {
	first  []int // the places of the beginning and of the first lines of all tracks
	places int
	edges  []edge
}

// newNet returns the net of a valid system.
func newNet(s api.System) *net {
	n := &net{first: []int{0}, places: 1}
	for _, t := range s.Tracks {
		n.first = append(n.first, n.places)
		n.places += len(t.Times)
	}
	bounds, _ := clocks.Bounds(s)
	for _, b := range bounds {
		n.edges = append(n.edges, edge{n.place(b.From), n.place(b.To), b.Most})
	}
	return n
}

// place returns the place of a ref.
func (n *net) place(r api.Ref) int { return n.first[r.Log+1] + r.Line }

// behind returns for each place by how much it may be later than a line at most.
func (n *net) behind(r api.Ref) []int {
	sums := slices.Repeat([]int{api.NoBound}, n.places)
	sums[n.place(r)] = 0
	lower := func(e edge) bool {
		if sums[e.from] == api.NoBound || sums[e.from]+e.most >= sums[e.to] {
			return false
		}
		sums[e.to] = sums[e.from] + e.most
		return true
	}
	// The system of a case closes: sums do not become less for ever. Bounds lead on along whole tracks in their own order, and back along them in the opposite one.
	for lowered := true; lowered; {
		lowered = false
		for _, e := range n.edges {
			lowered = lower(e) || lowered
		}
		for _, e := range slices.Backward(n.edges) {
			lowered = lower(e) || lowered
		}
	}
	return sums
}

// A leg leads from one line of a log to another one.
type leg struct{ from, to int }

// most returns by how much the end of a leg may be later than its beginning at most.
func (q *inquiry) most(l leg) int {
	if n, known := q.delays[l]; known {
		return n
	}
	if q.net == nil {
		s, _ := readings.System(q.Case)
		q.net = newNet(s)
	}
	first := q.net.place(api.Ref{Log: q.index})
	sums := q.net.behind(api.Ref{Log: q.index, Line: l.from})
	for to := range q.Lines {
		q.delays[leg{l.from, to}] = sums[first+to]
	}
	return q.delays[l]
}

// delay returns the delay of the line k behind the line i.
func (q *inquiry) delay(i, k int) api.Span {
	return api.Span{Lo: -q.most(leg{k, i}), Hi: q.most(leg{i, k})}
}
