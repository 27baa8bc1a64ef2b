package rules_test

import (
	"math/rand/v2"
	"slices"
	"testing"

	"pileup/api"
	"pileup/rules"
)

// any1, any2 and any3 stand for any expressions in patterns.
var any1, any2, any3 = api.Expr{Op: -1}, api.Expr{Op: -2}, api.Expr{Op: -3}

// A pattern is what a rule of R21 turns into what.
type pattern struct{ from, to api.Expr }

// patterns are the rules 3 to 6 of R21, in their order.
func patterns() []pattern {
	return []pattern{
		{node(api.OpNot, yes()), no()},
		{node(api.OpNot, no()), yes()},
		{node(api.OpNot, node(api.OpNot, any1)), any1},
		{node(api.OpAnd, no(), any1), no()}, {node(api.OpAnd, any1, no()), no()},
		{node(api.OpAnd, yes(), any1), any1}, {node(api.OpAnd, any1, yes()), any1},
		{node(api.OpAnd, any1, any1), any1},
		{node(api.OpOr, yes(), any1), yes()}, {node(api.OpOr, any1, yes()), yes()},
		{node(api.OpOr, no(), any1), any1}, {node(api.OpOr, any1, no()), any1},
		{node(api.OpOr, any1, any1), any1},
		{node(api.OpAdd, num(0), any1), any1}, {node(api.OpAdd, any1, num(0)), any1}, {node(api.OpSub, any1, num(0)), any1},
		{node(api.OpMul, num(1), any1), any1}, {node(api.OpMul, any1, num(1)), any1},
		{node(api.OpMul, num(0), any1), num(0)}, {node(api.OpMul, any1, num(0)), num(0)}, {node(api.OpSub, any1, any1), num(0)},
		{node(api.OpIf, yes(), any1, any2), any1}, {node(api.OpIf, no(), any1, any2), any2},
		{node(api.OpIf, any3, any1, any1), any1},
	}
}

// match reports whether an expression is as a pattern, and what stands for what in it.
func match(p, e api.Expr, bound map[int]api.Expr) bool {
	if p.Op < 0 {
		if x, ok := bound[p.Op]; ok {
			return equal(x, e)
		}
		bound[p.Op] = e
		return true
	}
	if p.Op != e.Op || p.Value != e.Value || len(p.Kids) != len(e.Kids) {
		return false
	}
	for i := range p.Kids {
		if !match(p.Kids[i], e.Kids[i], bound) {
			return false
		}
	}
	return true
}

// simpleBy simplifies an expression by the words of the chapter.
func simpleBy(e api.Expr) api.Expr {
	e = copied(e)
	for i, kid := range e.Kids {
		e.Kids[i] = simpleBy(kid)
	}
	numbers := len(e.Kids) == 2 && e.Kids[0].Op == api.OpNumber && e.Kids[1].Op == api.OpNumber
	if numbers && e.Op >= api.OpAdd && valueBy(e, nil) >= 0 {
		return num(valueBy(e, nil))
	}
	if e.Op == api.OpEqual || e.Op == api.OpLess {
		if numbers || equal(e.Kids[0], e.Kids[1]) {
			if is := valueBy(e, make([]int, 14)) == 1; is {
				return yes()
			}
			return no()
		}
	}
	for _, p := range patterns() {
		bound := map[int]api.Expr{}
		if match(p.from, e, bound) {
			if p.to.Op < 0 {
				return bound[p.to.Op]
			}
			return p.to
		}
	}
	return e
}

func TestSimplify(t *testing.T) {
	for s, want := range map[string]string{
		"if(band = band, 0 + zone, 7)": "zone",
		// Rule 1.
		"2 + 3": "5", "5 - 3": "2", "3 - 3": "0", "2 * 3": "6", "3 - 5": "3 - 5", "0 - 0": "0",
		"1000000 + 1": "1000000", "1000000 * 1000000": "1000000", "0 - 1000000": "0 - 1000000", "0 - 5 + 5": "0 - 5 + 5", "5 + (3 - 5)": "5 + (3 - 5)",
		// Rule 2.
		"1 = 1": "0 = 0", "1 = 2": "0 < 0", "1 < 2": "0 = 0", "2 < 1": "0 < 0", "2 < 2": "0 < 0", "0 = 0": "0 = 0", "0 < 0": "0 < 0",
		"band = band": "0 = 0", "band < band": "0 < 0", "band = mode": "band = mode", "band + mode < band + mode": "0 < 0", "band + mode = mode + band": "band + mode = mode + band",
		"3 - 5 = 3 - 5": "0 = 0", "3 - 5 < 4": "3 - 5 < 4", "band = 1": "band = 1",
		// Rule 3.
		"not 0 = 0": "0 < 0", "not 0 < 0": "0 = 0", "not not band = 1": "band = 1", "not not not band = 1": "not band = 1", "not band = 1": "not band = 1",
		// Rule 4.
		"0 < 0 and band = 1": "0 < 0", "band = 1 and 0 < 0": "0 < 0", "0 = 0 and band = 1": "band = 1", "band = 1 and 0 = 0": "band = 1",
		"band = 1 and band = 1": "band = 1", "band = 1 and band = 2": "band = 1 and band = 2",
		"0 = 0 or band = 1": "0 = 0", "band = 1 or 0 = 0": "0 = 0", "0 < 0 or band = 1": "band = 1", "band = 1 or 0 < 0": "band = 1",
		"band = 1 or band = 1": "band = 1", "band = 1 or band = 2": "band = 1 or band = 2",
		"0 = 0 and 0 = 0": "0 = 0", "0 < 0 or 0 < 0": "0 < 0", "0 = 0 and 0 < 0": "0 < 0", "0 < 0 or 0 = 0": "0 = 0",
		// Rule 5.
		"0 + band": "band", "band + 0": "band", "band - 0": "band", "1 * band": "band", "band * 1": "band", "0 * band": "0", "band * 0": "0", "band - band": "0",
		"0 - band": "0 - band", "band + band": "band + band", "1 + band": "1 + band", "band - 1": "band - 1", "band * 2": "band * 2", "band * band": "band * band",
		"(3 - 5) * 0": "0", "(3 - 5) * 1": "3 - 5", "3 - 5 - (3 - 5)": "0", "band * mode - band * mode": "0",
		// Rule 6.
		"if(0 = 0, band, mode)": "band", "if(0 < 0, band, mode)": "mode", "if(band = 1, mode, mode)": "mode", "if(band = 1, mode, zone)": "if(band = 1, mode, zone)",
		// Rules that apply only after another one did.
		"0 * band + mode": "mode", "if(band < band or 1 < 2, 1 + 1, 9) * zone": "2 * zone", "not (band = band and 2 < 1)": "0 = 0",
		"band + (2 - 2)": "band", "if(not band = band, 1, mode - mode + 4)": "4", "not not (band = 1 and 1 = 1)": "band = 1",
		"(band + 0) - band * 1": "0", "if(band = 1, 1 + 2, 3)": "3",
		// A rule is applied once to each node, so that these stay.
		"band + 1 + 1": "band + 1 + 1", "1 + (1 + band)": "1 + (1 + band)", "band - mode + mode": "band - mode + mode",
		"band": "band", "7": "7",
	} {
		got, e := rules.Simplify(mustParse(t, s))
		text, _ := rules.PrintExpr(got)
		if text != want || e != api.OK {
			t.Error(s, text, e)
		}
	}
}

// size returns the number of nodes.
func size(e api.Expr) int {
	n := 1
	for _, kid := range e.Kids {
		n += size(kid)
	}
	return n
}

// plain returns a random expression of few numbers and fields, so that the rules have much to do.
func plain(r *rand.Rand, letter string, levels int) api.Expr {
	e := anyExpr(r, letter, levels)
	var thin func(e *api.Expr)
	thin = func(e *api.Expr) {
		switch {
		case e.Op == api.OpNumber && r.IntN(3) > 0:
			e.Value = r.IntN(3)
		case e.Op == api.OpField:
			e.Value = r.IntN(2)
		}
		for i := range e.Kids {
			thin(&e.Kids[i])
			if i > 0 && r.IntN(5) == 0 && typeBy(e.Kids[i]) == typeBy(e.Kids[i-1]) {
				e.Kids[i] = copied(e.Kids[i-1])
			}
		}
	}
	thin(&e)
	return e
}

// R21, P6.7: random expressions by the words of the chapter; no value and no type changes, no node, level or field is added, and twice is once.
func TestSimplifyAny(t *testing.T) {
	r := rand.New(rand.NewPCG(6, 21))
	fewer := 0
	for range 12000 {
		letter := []string{"n", "t"}[r.IntN(2)]
		e := plain(r, letter, 2+r.IntN(6))
		got, errno := rules.Simplify(e)
		if errno != api.OK || !equal(got, simpleBy(e)) {
			t.Fatal(e, got, errno)
		}
		if typeBy(got) != letter || size(got) > size(e) || levelsOf(got) > levelsOf(e) {
			t.Fatal(e, got)
		}
		named := fieldsBy(e)
		for _, n := range fieldsBy(got) {
			if !slices.Contains(named, n) {
				t.Fatal(e, got)
			}
		}
		for range 4 {
			facts := anyFacts(r)
			if valueBy(e, facts) != valueBy(got, facts) {
				t.Fatal(e, got, facts)
			}
		}
		if again, errno := rules.Simplify(got); errno != api.OK || !equal(again, got) {
			t.Fatal(e, got, again)
		}
		if size(got) < size(e) {
			fewer++
		}
	}
	if fewer < 3000 {
		t.Error(fewer)
	}
}

// P6.7: simplified expressions do not differ from those that they were (Differ), over whole domains.
func TestSimplifyDiffers(t *testing.T) {
	r := rand.New(rand.NewPCG(6, 77))
	for range 300 {
		e, d := plain(r, []string{"n", "t"}[r.IntN(2)], 5), anyDomains(r)
		got, _ := rules.Simplify(e)
		if facts, errno := rules.Differ(e, got, d); errno != api.ErrNone {
			t.Fatal(e, got, facts, errno)
		}
	}
	if e, errno := rules.Simplify(deep("t", 32)); errno != api.OK || !equal(e, yes()) {
		t.Error(e, errno)
	}
	if e, errno := rules.Simplify(deep("n", 32)); errno != api.OK || !equal(e, deep("n", 32)) {
		t.Error(e, errno)
	}
}
