package scores

import (
	"cmp"
	"iter"
	"slices"

	"pileup/api"
	"pileup/readings"
)

// those returns the indices at which a status stands.
func those(statuses []int, status int) []int {
	var l []int
	for i, x := range statuses {
		if x == status {
			l = append(l, i)
		}
	}
	return l
}

// meet reports whether two pairs have a node in common.
func meet(x, y api.Pair) bool { return x.A == y.A || x.A == y.B || x.B == y.A || x.B == y.B }

// choices yields all sets of pairs of a problem of which no two meet. The next one takes its memory.
func choices(p api.Problem, pairs []int) iter.Seq[[]int] {
	return func(yield func([]int) bool) {
		// grow yields a set and those that go on with some of the rest, none of which meets the set.
		var grow func(set, rest []int) bool
		grow = func(set, rest []int) bool {
			for i, pair := range rest {
				meets := func(other int) bool { return meet(p.Pairs[pair], p.Pairs[other]) }
				apart := slices.DeleteFunc(slices.Clone(rest[i+1:]), meets)
				if !grow(append(set, pair), apart) {
					return false
				}
			}
			return yield(set)
		}
		grow(nil, pairs)
	}
}

// leasts returns the choices of pairs of a problem that cost least.
func leasts(p api.Problem, pairs []int) [][]int {
	var l [][]int
	least := api.NoBound
	for set := range choices(p, pairs) {
		cost := 0
		for _, i := range set {
			x := p.Pairs[i]
			cost += x.Cost - p.Alone[x.A] - p.Alone[x.B]
		}
		if cost < least {
			least, l = cost, nil
		}
		if cost == least {
			l = append(l, slices.Clone(set))
		}
	}
	return l
}

// groups returns the pairs of a problem that are possible, by the parts that hang together by these.
func groups(p api.Problem, statuses []int) [][]int {
	p.Force, p.Forbid = nil, nil
	for i, status := range statuses {
		if status != api.Possible {
			p.Forbid = append(p.Forbid, i)
		}
	}
	parts, _ := readings.Parts(p)
	groupOf := map[int]int{}
	for k, nodes := range parts {
		for _, node := range nodes {
			groupOf[node] = k
		}
	}
	l := make([][]int, len(parts))
	for _, i := range those(statuses, api.Possible) {
		k := groupOf[p.Pairs[i].A]
		l[k] = append(l[k], i)
	}
	return slices.DeleteFunc(l, func(pairs []int) bool { return len(pairs) == 0 })
}

// compareReadings orders readings: the one with the lesser pair at the first difference comes first, and one behind those that go on where it ends.
func compareReadings(a, b []int) int {
	for i := range min(len(a), len(b)) {
		if a[i] != b[i] {
			return cmp.Compare(a[i], b[i])
		}
	}
	return cmp.Compare(len(b), len(a))
}

// joint yields the joint readings of a case that is not wide, in order.
func (d *desk) joint() iter.Seq[[]int] {
	statuses, _ := readings.Statuses(d.problem)
	// Least readings differ only in pairs that are possible, and these meet none that is certain. Those that do not hang together cost least by themselves.
	all := [][]int{those(statuses, api.Certain)}
	for _, pairs := range groups(d.problem, statuses) {
		var more [][]int
		for _, set := range leasts(d.problem, pairs) {
			for _, r := range all {
				more = append(more, slices.Concat(r, set))
			}
		}
		all = more
	}
	for _, r := range all {
		slices.Sort(r)
	}
	slices.SortFunc(all, compareReadings)
	return slices.Values(all)
}

// countJoint returns the number of joint readings, and ErrLimit if the case is wide.
func (d *desk) countJoint() (int, api.Errno) {
	n, e := readings.Count(d.problem)
	if n > api.MaxJoint {
		return 0, api.ErrLimit
	}
	return n, e
}

// Joint returns the number of readings that are compared.
func Joint(c api.Case) (int, api.Errno) {
	d, e := openDesk(c)
	if e != api.OK {
		return 0, e
	}
	return d.countJoint()
}
