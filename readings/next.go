package readings

import (
	"slices"

	"pileup/api"
)

// A fork is where least readings of a part leave a given reading: the least pair that is in only one of both (endless: none), whether they come behind it, and the first one of them.
type fork struct {
	at     int
	behind bool
	first  []int
}

// endless is where readings part that are equal: behind all pairs.
const endless = api.MaxPairs

// leave returns where one reading leaves another one, and whether it comes behind it.
func leave(r, from []int) (at int, behind bool) {
	for i := range min(len(r), len(from)) {
		if r[i] != from[i] {
			return min(r[i], from[i]), r[i] > from[i]
		}
	}
	switch {
	case len(r) < len(from):
		return from[len(r)], true
	case len(r) > len(from):
		return r[len(from)], false
	}
	return endless, false
}

// forks returns where the least readings of a part leave a reading, in order.
func (t *part) forks(from []int) []fork {
	var own []int
	for _, x := range t.free {
		if holds(from, x.pair) {
			own = append(own, x.pair)
		}
	}
	var l []fork
	for r := range t.leasts() {
		at, behind := leave(r, own)
		// Readings that leave at one pair follow one another, and either all have it or all lack it.
		if n := len(l); n == 0 || l[n-1].at != at {
			l = append(l, fork{at, behind, slices.Clone(r)})
		}
	}
	return l
}

// turn returns the pair at which the first least reading behind a given one leaves it: the greatest one at which one part can leave to behind while all others follow up to there. It is none if there is no such pair.
func turn(forks [][]fork) int {
	reach := endless
	for _, l := range forks {
		furthest := none
		for _, x := range l {
			furthest = max(furthest, x.at)
		}
		reach = min(reach, furthest)
	}
	best := none
	for _, x := range slices.Concat(forks...) {
		if x.behind && x.at <= reach {
			best = max(best, x.at)
		}
	}
	return best
}

// Next returns the least reading behind a reading.
func Next(p api.Problem, r []int) ([]int, api.Errno) {
	if e := checkReading(p, r); e != api.OK {
		return nil, e
	}
	parts, e := solve(p)
	if e != api.OK {
		return nil, e
	}
	forks := inAll(parts, func(t *part) []fork { return t.forks(r) })
	at := turn(forks)
	if at == none {
		return nil, api.ErrNone
	}
	own := partWith(parts, p.Pairs[at].A)
	next := slices.Clone(p.Force)
	for i, t := range parts {
		leaves := func(x fork) bool {
			if t == own {
				return x.at == at
			}
			return x.at >= at
		}
		k := slices.IndexFunc(forks[i], leaves)
		next = append(next, forks[i][k].first...)
	}
	slices.Sort(next)
	return next, api.OK
}
