package readings

import (
	"iter"
	"slices"
	"sync"

	"pileup/api"
)

// What a problem says of a pair: that a reading may have or lack it, has it, lacks it, or lacks it because it meets one of Force.
const (
	free = iota
	forced
	forbidden
	blocked
)

// A link is a pair in its part: its index, its nodes as indices of those of the part, and by how much a reading costs more with it.
type link struct{ pair, a, b, more int }

// A part is nodes that hang together.
type part struct {
	nodes []int  // increasing
	pairs []link // those that are not forbidden, in order
	free  []link // those of them that are free
	bare  int    // what the reading without free pairs costs
	space int    // the number of readings, at most MaxSpace + 1
	least int    // what a least reading costs
}

// kindsOf returns what a valid problem says of each pair.
func kindsOf(p api.Problem) []int {
	kinds := make([]int, len(p.Pairs))
	used := make([]bool, len(p.Alone))
	for _, i := range p.Force {
		x := p.Pairs[i]
		used[x.A], used[x.B] = true, true
	}
	for i, x := range p.Pairs {
		if used[x.A] || used[x.B] {
			kinds[i] = blocked
		}
	}
	for _, i := range p.Force {
		kinds[i] = forced
	}
	for _, i := range p.Forbid {
		kinds[i] = forbidden
	}
	return kinds
}

// leastNodes returns for each node the least one of its part.
func leastNodes(p api.Problem, kinds []int) []int {
	// Each node names a lesser one of its part or, if it knows none, itself.
	names := make([]int, len(p.Alone))
	for v := range names {
		names[v] = v
	}
	least := func(v int) int {
		for names[v] != v {
			names[v] = names[names[v]]
			v = names[v]
		}
		return v
	}
	for i, x := range p.Pairs {
		if kinds[i] != forbidden {
			a, b := least(x.A), least(x.B)
			names[max(a, b)] = min(a, b)
		}
	}
	var all []int
	for v := range names {
		all = append(all, least(v))
	}
	return all
}

// partsOf returns the parts of a valid problem, by their least nodes.
func partsOf(p api.Problem) []*part {
	kinds := kindsOf(p)
	least := leastNodes(p, kinds)
	var parts []*part
	of := make([]*part, len(p.Alone))
	index := make([]int, len(p.Alone))
	for v, first := range least {
		if first == v {
			of[v] = &part{}
			parts = append(parts, of[v])
		}
		t := of[first]
		of[v], index[v] = t, len(t.nodes)
		t.nodes = append(t.nodes, v)
		t.bare += p.Alone[v]
	}
	for i, x := range p.Pairs {
		if kinds[i] == forbidden {
			continue
		}
		t := of[x.A]
		own := link{i, index[x.A], index[x.B], more(p, x)}
		t.pairs = append(t.pairs, own)
		switch kinds[i] {
		case forced:
			t.bare += own.more
		case free:
			t.free = append(t.free, own)
		}
	}
	return parts
}

// readings yields the readings of a part without the pairs of Force, in order, and what each of them costs. The next one takes its memory.
func (t *part) readings() iter.Seq2[[]int, int] {
	return func(yield func([]int, int) bool) {
		used := make([]bool, len(t.nodes))
		var r []int
		// further yields the readings that go on behind r with free pairs from an index on. Those with a lesser pair come ahead, and r itself last.
		var further func(from, cost int) bool
		further = func(from, cost int) bool {
			for i, x := range t.free[from:] {
				if used[x.a] || used[x.b] {
					continue
				}
				r = append(r, x.pair)
				used[x.a], used[x.b] = true, true
				goOn := further(from+i+1, cost+x.more)
				used[x.a], used[x.b] = false, false
				r = r[:len(r)-1]
				if !goOn {
					return false
				}
			}
			return yield(r, cost)
		}
		further(0, t.bare)
	}
}

// leasts yields the least readings of a part, as readings does.
func (t *part) leasts() iter.Seq[[]int] {
	return func(yield func([]int) bool) {
		for r, cost := range t.readings() {
			if cost == t.least && !yield(r) {
				return
			}
		}
	}
}

// solve counts the readings of a part, and finds what a least one costs.
func (t *part) solve() int {
	for _, cost := range t.readings() {
		if t.space == 0 || cost < t.least {
			t.least = cost
		}
		t.space++
		if t.space > api.MaxSpace {
			break
		}
	}
	return t.space
}

// inAll returns what is found in each element of a list, where all of them are worked on at the same time.
func inAll[S, T any](l []S, find func(S) T) []T {
	found := make([]T, len(l))
	var wait sync.WaitGroup
	for i, x := range l {
		wait.Add(1)
		go func() {
			defer wait.Done()
			found[i] = find(x)
		}()
	}
	wait.Wait()
	return found
}

// solve returns the parts of a problem, solved. Its errors are those that most functions with a problem and indices of pairs have in common.
func solve(p api.Problem, pairs ...int) ([]*part, api.Errno) {
	if e, _ := Check(p); e != api.OK {
		return nil, e
	}
	for _, i := range pairs {
		if !within(i, 0, len(p.Pairs)-1) {
			return nil, api.ErrArg
		}
	}
	parts := partsOf(p)
	for _, space := range inAll(parts, (*part).solve) {
		if space > api.MaxSpace {
			return nil, api.ErrLimit
		}
	}
	return parts, api.OK
}

// partWith returns the part that has a node.
func partWith(parts []*part, node int) *part {
	i := slices.IndexFunc(parts, func(t *part) bool { return holds(t.nodes, node) })
	return parts[i]
}

// Parts returns the nodes of each part.
func Parts(p api.Problem) ([][]int, api.Errno) {
	if e, _ := Check(p); e != api.OK {
		return nil, e
	}
	var all [][]int
	for _, t := range partsOf(p) {
		all = append(all, t.nodes)
	}
	return all, api.OK
}

// Space returns the greatest number of readings of a part.
func Space(p api.Problem) (int, api.Errno) {
	parts, e := solve(p)
	if e != api.OK {
		return 0, e
	}
	most := 1
	for _, t := range parts {
		most = max(most, t.space)
	}
	return most, api.OK
}
