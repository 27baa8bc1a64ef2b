package rules

import (
	"cmp"
	"iter"
	"slices"

	"pileup/api"
)

// checkDomains returns ErrDomain unless a list is domains.
func checkDomains(d []api.Span) api.Errno {
	if len(d) != api.MaxFields {
		return api.ErrDomain
	}
	joint := 1
	for _, s := range d {
		if s.Lo < 0 || s.Hi < s.Lo || s.Hi > api.MaxValue {
			return api.ErrDomain
		}
		// Asked after each factor, so that no product wraps around.
		joint *= s.Hi - s.Lo + 1
		if joint > api.MaxJoint {
			return api.ErrDomain
		}
	}
	return api.OK
}

// factsOf yields the facts of domains in increasing order, each in memory of its own.
func factsOf(d []api.Span) iter.Seq[[]int] {
	return func(yield func([]int) bool) {
		facts := make([]int, len(d))
		for i, s := range d {
			facts[i] = s.Lo
		}
		for yield(slices.Clone(facts)) {
			last := len(d) - 1
			for last >= 0 && facts[last] == d[last].Hi {
				facts[last] = d[last].Lo
				last--
			}
			if last < 0 {
				return
			}
			facts[last]++
		}
	}
}

// search returns the first facts of domains of which something is true, or ErrNone.
func search(d []api.Span, is func(facts []int) bool) ([]int, api.Errno) {
	for facts := range factsOf(d) {
		if is(facts) {
			return facts, api.OK
		}
	}
	return nil, api.ErrNone
}

// Gap returns the first facts for which no clause is true.
func Gap(l []api.Clause, d []api.Span) ([]int, api.Errno) {
	if e := cmp.Or(checkClauses(l), checkDomains(d)); e != api.OK {
		return nil, e
	}
	return search(d, func(facts []int) bool { return firstTrue(l, facts) == none })
}

// Clash returns the first facts for which two clauses are true.
func Clash(l []api.Clause, i, k int, d []api.Span) ([]int, api.Errno) {
	if e := cmp.Or(checkClauses(l), checkDomains(d)); e != api.OK {
		return nil, e
	}
	last := len(l) - 1
	if !within(i, 0, last) || !within(k, 0, last) || i == k {
		return nil, api.ErrArg
	}
	return search(d, func(facts []int) bool { return holds(l[i], facts) && holds(l[k], facts) })
}

// Shadowed returns the indices of the clauses that are never the first true one.
func Shadowed(l []api.Clause, d []api.Span) ([]int, api.Errno) {
	if e := cmp.Or(checkClauses(l), checkDomains(d)); e != api.OK {
		return nil, e
	}
	found := make([]bool, len(l))
	for facts := range factsOf(d) {
		if i := firstTrue(l, facts); i != none {
			found[i] = true
		}
	}
	var shadowed []int
	for i, is := range found {
		if !is {
			shadowed = append(shadowed, i)
		}
	}
	return shadowed, api.OK
}

// Differ returns the first facts for which two expressions have different values.
func Differ(a, b api.Expr, d []api.Span) ([]int, api.Errno) {
	if e := cmp.Or(checkPair(a, b), checkDomains(d)); e != api.OK {
		return nil, e
	}
	return search(d, func(facts []int) bool { return value(a, facts) != value(b, facts) })
}

// Range returns the least and the greatest value of an expression.
func Range(e api.Expr, d []api.Span) (api.Span, api.Errno) {
	if errno := cmp.Or(checkExpr(e), checkDomains(d)); errno != api.OK {
		return api.Span{}, errno
	}
	s := api.Span{Lo: api.MaxValue, Hi: -api.MaxValue}
	for facts := range factsOf(d) {
		v := value(e, facts)
		s = api.Span{Lo: min(s.Lo, v), Hi: max(s.Hi, v)}
	}
	return s, api.OK
}
