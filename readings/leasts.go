package readings

import (
	"slices"

	"pileup/api"
)

// maxCount is the most least readings that are counted.
const maxCount = 1 << 50

// total returns what least readings of all parts cost together.
func total(parts []*part) int {
	n := 0
	for _, t := range parts {
		n += t.least
	}
	return n
}

// join returns the reading of a problem that has in each part the pairs that are picked there, and those of Force.
func join(p api.Problem, parts []*part, pick func(*part) []int) []int {
	r := slices.Clone(p.Force)
	for _, l := range inAll(parts, pick) {
		r = append(r, l...)
	}
	slices.Sort(r)
	return r
}

// firstWhere returns the first least reading of a part that is wanted, and whether there is one.
func (t *part) firstWhere(wanted func(r []int) bool) ([]int, bool) {
	for r := range t.leasts() {
		if wanted(r) {
			return slices.Clone(r), true
		}
	}
	return nil, false
}

// first returns the first least reading of a part.
func (t *part) first() []int {
	r, _ := t.firstWhere(func([]int) bool { return true })
	return r
}

// count returns the number of least readings of a part.
func (t *part) count() int {
	n := 0
	for range t.leasts() {
		n++
	}
	return n
}

// statuses returns the statuses of those pairs of a part that some of its least readings have, but not those of Force.
func (t *part) statuses() map[int]int {
	all := t.count()
	having := map[int]int{}
	for r := range t.leasts() {
		for _, i := range r {
			having[i]++
		}
	}
	statuses := map[int]int{}
	for i, n := range having {
		statuses[i] = api.Possible
		if n == all {
			statuses[i] = api.Certain
		}
	}
	return statuses
}

// Least returns the least cost of a reading.
func Least(p api.Problem) (int, api.Errno) {
	parts, e := solve(p)
	if e != api.OK {
		return 0, e
	}
	return total(parts), api.OK
}

// First returns the first least reading.
func First(p api.Problem) ([]int, api.Errno) {
	parts, e := solve(p)
	if e != api.OK {
		return nil, e
	}
	return join(p, parts, (*part).first), api.OK
}

// Count returns the number of least readings.
func Count(p api.Problem) (int, api.Errno) {
	parts, e := solve(p)
	if e != api.OK {
		return 0, e
	}
	product := 1
	for _, n := range inAll(parts, (*part).count) {
		if product > maxCount/n {
			return 0, api.ErrLimit
		}
		product *= n
	}
	return product, api.OK
}

// Statuses returns the status of each pair.
func Statuses(p api.Problem) ([]int, api.Errno) {
	parts, e := solve(p)
	if e != api.OK {
		return nil, e
	}
	l := make([]int, len(p.Pairs))
	for i := range l {
		l[i] = api.Denied
	}
	for _, i := range p.Force {
		l[i] = api.Certain
	}
	for _, statuses := range inAll(parts, (*part).statuses) {
		for i, status := range statuses {
			l[i] = status
		}
	}
	return l, api.OK
}

// choose returns the first least reading that has a pair, or lacks it.
func choose(p api.Problem, pair int, has bool) ([]int, api.Errno) {
	parts, e := solve(p, pair)
	if e != api.OK {
		return nil, e
	}
	always := holds(p.Force, pair)
	own := partWith(parts, p.Pairs[pair].A)
	chosen, found := own.firstWhere(func(r []int) bool { return (always || holds(r, pair)) == has })
	if !found {
		return nil, api.ErrNone
	}
	return join(p, parts, func(t *part) []int {
		if t == own {
			return chosen
		}
		return t.first()
	}), api.OK
}

// With returns the first least reading that has a pair.
func With(p api.Problem, pair int) ([]int, api.Errno) { return choose(p, pair, true) }

// Without returns the first least reading that lacks a pair.
func Without(p api.Problem, pair int) ([]int, api.Errno) { return choose(p, pair, false) }

// Margin returns by how much a reading with a pair costs more than one without it.
func Margin(p api.Problem, pair int) (int, api.Errno) {
	parts, e := solve(p, pair)
	if e != api.OK {
		return 0, e
	}
	if holds(p.Force, pair) {
		return 0, api.ErrOpen
	}
	// Other parts cost the same with the pair and without it.
	with, without := api.NoBound, api.NoBound
	for r, cost := range partWith(parts, p.Pairs[pair].A).readings() {
		if holds(r, pair) {
			with = min(with, cost)
		} else {
			without = min(without, cost)
		}
	}
	if with == api.NoBound {
		return 0, api.ErrOpen
	}
	return with - without, api.OK
}
