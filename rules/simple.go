package rules

import "pileup/api"

// constant returns the expression that is a number.
func constant(n int) api.Expr { return api.Expr{Op: number, Value: n} }

// always returns the expression that is always true, or always false.
func always(is bool) api.Expr {
	op := less
	if is {
		op = equal
	}
	return api.Expr{Op: op, Kids: []api.Expr{constant(0), constant(0)}}
}

// isConstant reports whether an expression is a number n.
func isConstant(e api.Expr, n int) bool { return same(e, constant(n)) }

// isAlways reports whether an expression is that which is always true, or always false.
func isAlways(e api.Expr, is bool) bool { return same(e, always(is)) }

// bothNumbers reports whether both kids of a node are numbers.
func bothNumbers(e api.Expr) bool { return e.Kids[0].Op == number && e.Kids[1].Op == number }

// Simplify returns a simple expression that has the values of a given one.
func Simplify(e api.Expr) (api.Expr, api.Errno) {
	if errno := checkExpr(e); errno != api.OK {
		return api.Expr{}, errno
	}
	return simple(e), api.OK
}

// simple returns what a sound expression is simplified to, in new memory.
func simple(e api.Expr) api.Expr {
	var kids []api.Expr
	for _, kid := range e.Kids {
		kids = append(kids, simple(kid))
	}
	return reduce(api.Expr{Op: e.Op, Value: e.Value, Kids: kids})
}

// reduce applies the first rule that applies to a node with simple kids.
func reduce(e api.Expr) api.Expr {
	switch e.Op {
	case add, sub, mul:
		return reduceReckoning(e)
	case equal, less:
		return reduceTest(e)
	case not:
		return reduceNot(e)
	case and, or:
		return reduceBoth(e)
	case choice:
		return reduceChoice(e)
	default:
		return e
	}
}

// reduceReckoning applies the rules 1 and 5 to a sum, a difference or a product.
func reduceReckoning(e api.Expr) api.Expr {
	x, y := e.Kids[0], e.Kids[1]
	if bothNumbers(e) {
		if n := reckon(e.Op, x.Value, y.Value); n >= 0 {
			return constant(n)
		}
	}
	unit := 0
	if e.Op == mul {
		unit = 1
	}
	switch {
	case isConstant(y, unit):
		return x
	case e.Op != sub && isConstant(x, unit):
		return y
	case e.Op == mul && (isConstant(x, 0) || isConstant(y, 0)):
		return constant(0)
	case e.Op == sub && same(x, y):
		return constant(0)
	default:
		return e
	}
}

// reduceTest applies the rule 2 to a comparison.
func reduceTest(e api.Expr) api.Expr {
	x, y := e.Kids[0], e.Kids[1]
	switch {
	case same(x, y):
		return always(e.Op == equal)
	case bothNumbers(e):
		return always(e.Op == less && x.Value < y.Value)
	default:
		return e
	}
}

// reduceNot applies the rule 3.
func reduceNot(e api.Expr) api.Expr {
	x := e.Kids[0]
	switch {
	case isAlways(x, true):
		return always(false)
	case isAlways(x, false):
		return always(true)
	case x.Op == not:
		return x.Kids[0]
	default:
		return e
	}
}

// reduceBoth applies the rule 4 to `and` and `or`, each of which is decided by one of the truths, while the other one changes nothing.
func reduceBoth(e api.Expr) api.Expr {
	x, y := e.Kids[0], e.Kids[1]
	decides := e.Op == or
	switch {
	case isAlways(x, decides) || isAlways(y, decides):
		return always(decides)
	case isAlways(x, !decides):
		return y
	case isAlways(y, !decides) || same(x, y):
		return x
	default:
		return e
	}
}

// reduceChoice applies the rule 6.
func reduceChoice(e api.Expr) api.Expr {
	c, x, y := e.Kids[0], e.Kids[1], e.Kids[2]
	switch {
	case isAlways(c, true):
		return x
	case isAlways(c, false):
		return y
	case same(x, y):
		return x
	default:
		return e
	}
}
