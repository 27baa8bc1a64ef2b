package rules

import (
	"cmp"

	"pileup/api"
)

// checkFacts returns ErrFacts unless a list is facts.
func checkFacts(facts []int) api.Errno {
	if len(facts) != api.MaxFields {
		return api.ErrFacts
	}
	for _, n := range facts {
		if !within(n, 0, api.MaxValue) {
			return api.ErrFacts
		}
	}
	return api.OK
}

// held returns the number from -MaxValue to MaxValue that is nearest to a number.
func held(n int) int { return max(-api.MaxValue, min(n, api.MaxValue)) }

// truth returns the value that tells whether something is so.
func truth(is bool) int {
	if is {
		return 1
	}
	return 0
}

// value returns the value of a sound expression.
func value(e api.Expr, facts []int) int {
	kid := func(i int) int { return value(e.Kids[i], facts) }
	switch e.Op {
	case number:
		return e.Value
	case field:
		return facts[e.Value]
	case not:
		return 1 - kid(0)
	case and:
		return min(kid(0), kid(1))
	case or:
		return max(kid(0), kid(1))
	case equal:
		return truth(kid(0) == kid(1))
	case less:
		return truth(kid(0) < kid(1))
	case choice:
		if kid(0) == 1 {
			return kid(1)
		}
		return kid(2)
	default:
		return reckon(e.Op, kid(0), kid(1))
	}
}

// reckon returns the sum, the difference or the product of two numbers, held.
func reckon(op, a, b int) int {
	switch op {
	case add:
		return held(a + b)
	case sub:
		return held(a - b)
	default:
		return held(a * b)
	}
}

// holds reports whether the When of a clause is 1.
func holds(c api.Clause, facts []int) bool { return value(c.When, facts) == 1 }

// Eval returns the value of an expression.
func Eval(e api.Expr, facts []int) (int, api.Errno) {
	if errno := cmp.Or(checkExpr(e), checkFacts(facts)); errno != api.OK {
		return 0, errno
	}
	return value(e, facts), api.OK
}

// none is the index of the first true clause if there is none.
const none = -1

// firstTrue returns the index of the first clause that is true, or none.
func firstTrue(l []api.Clause, facts []int) int {
	for i, c := range l {
		if holds(c, facts) {
			return i
		}
	}
	return none
}

// First returns the index of the first clause that is true.
func First(l []api.Clause, facts []int) (int, api.Errno) {
	if e := cmp.Or(checkClauses(l), checkFacts(facts)); e != api.OK {
		return 0, e
	}
	i := firstTrue(l, facts)
	if i == none {
		return 0, api.ErrNone
	}
	return i, api.OK
}

// Points returns the points that a book gives to facts.
func Points(b api.Book, facts []int) (int, api.Errno) {
	if e := cmp.Or(checkBook(b), checkFacts(facts)); e != api.OK {
		return 0, e
	}
	i := firstTrue(b.Points, facts)
	if i == none {
		return 0, api.ErrGap
	}
	return value(b.Points[i].Then, facts), api.OK
}

// Penalty returns the penalty that a book gives to facts.
func Penalty(b api.Book, facts []int) (int, api.Errno) {
	if e := cmp.Or(checkBook(b), checkFacts(facts)); e != api.OK {
		return 0, e
	}
	i := firstTrue(b.Penalties, facts)
	if i == none {
		return 0, api.OK
	}
	return value(b.Penalties[i].Then, facts), api.OK
}

// Keys returns the multipliers that a book gives to facts.
func Keys(b api.Book, facts []int) ([]api.Key, api.Errno) {
	if e := cmp.Or(checkBook(b), checkFacts(facts)); e != api.OK {
		return nil, e
	}
	var l []api.Key
	for i, c := range b.Multipliers {
		if holds(c, facts) {
			l = append(l, api.Key{Clause: i, Value: value(c.Then, facts)})
		}
	}
	return l, api.OK
}

// Repeat returns the numbers that facts have by the Repeats of a book: what has the same ones repeats.
func Repeat(b api.Book, facts []int) ([]int, api.Errno) {
	if e := cmp.Or(checkBook(b), checkFacts(facts)); e != api.OK {
		return nil, e
	}
	var l []int
	for _, x := range b.Repeats {
		l = append(l, value(x, facts))
	}
	return l, api.OK
}
