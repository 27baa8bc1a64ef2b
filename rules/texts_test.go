package rules_test

import (
	"math/rand/v2"
	"strconv"
	"strings"
	"testing"

	"pileup/api"
	"pileup/rules"
)

// fieldNames are the names of the fields 0 to 13.
var fieldNames = strings.Fields("band mode hour mycountry myzone mycontinent country zone continent call gotzone category power status")

// between are the texts of operators with two kids.
var between = map[int]string{
	api.OpAnd: " and ", api.OpOr: " or ", api.OpEqual: " = ", api.OpLess: " < ", api.OpAdd: " + ", api.OpSub: " - ", api.OpMul: " * ",
}

// rankOf is the rank of an expression.
func rankOf(e api.Expr) int {
	switch e.Op {
	case api.OpOr:
		return 1
	case api.OpAnd:
		return 2
	case api.OpNot:
		return 3
	case api.OpEqual, api.OpLess:
		return 4
	case api.OpAdd, api.OpSub:
		return 5
	case api.OpMul:
		return 6
	}
	return 7
}

// asked are the ranks that operators ask for in the places of their kids.
var asked = map[int][]int{
	api.OpOr: {1, 2}, api.OpAnd: {2, 3}, api.OpNot: {3}, api.OpEqual: {5, 5}, api.OpLess: {5, 5},
	api.OpAdd: {5, 6}, api.OpSub: {5, 6}, api.OpMul: {6, 7}, api.OpIf: {1, 1, 1},
}

// written returns an expression as a text, with parentheses around each kid of which wrap is true.
func written(e api.Expr, wrap func(op, i int, kid api.Expr) bool) string {
	var kids []string
	for i, kid := range e.Kids {
		s := written(kid, wrap)
		if wrap(e.Op, i, kid) {
			s = "(" + s + ")"
		}
		kids = append(kids, s)
	}
	switch e.Op {
	case api.OpNumber:
		return strconv.Itoa(e.Value)
	case api.OpField:
		return fieldNames[e.Value]
	case api.OpNot:
		return "not " + kids[0]
	case api.OpIf:
		return "if(" + strings.Join(kids, ", ") + ")"
	}
	return strings.Join(kids, between[e.Op])
}

// needed tells whether a kid needs parentheses, by the words of the chapter.
func needed(op, i int, kid api.Expr) bool { return rankOf(kid) < asked[op][i] }

// always puts parentheses around everything.
func always(int, int, api.Expr) bool { return true }

// mustParse returns the expression of a text.
func mustParse(t *testing.T, s string) api.Expr {
	t.Helper()
	x, e, at := rules.ParseExpr(s)
	if e != api.OK || at != 0 {
		t.Fatal(s, e, at)
	}
	return x
}

// The examples of the chapter, and what their trees are.
func TestParseExpr(t *testing.T) {
	for s, want := range map[string]api.Expr{
		"0":                      num(0),
		"007":                    num(7),
		"0000000":                num(0),
		"0999999":                num(999999),
		"1000000":                num(api.MaxValue),
		" \t band\t":             fld(0),
		"status":                 fld(13),
		"((zone))":               fld(7),
		"1 - 2 - 3":              node(api.OpSub, node(api.OpSub, num(1), num(2)), num(3)),
		"1 - (2 - 3)":            node(api.OpSub, num(1), node(api.OpSub, num(2), num(3))),
		"1 - 2 + 3":              node(api.OpAdd, node(api.OpSub, num(1), num(2)), num(3)),
		"1 + 2 * 3":              node(api.OpAdd, num(1), node(api.OpMul, num(2), num(3))),
		"1*2*3":                  node(api.OpMul, node(api.OpMul, num(1), num(2)), num(3)),
		"1*(2*3)":                node(api.OpMul, num(1), node(api.OpMul, num(2), num(3))),
		"not not 0 = 0":          node(api.OpNot, node(api.OpNot, yes())),
		"not 0 = 0 and 0 < 0":    node(api.OpAnd, node(api.OpNot, yes()), no()),
		"not (0 = 0 and 0 < 0)":  node(api.OpNot, node(api.OpAnd, yes(), no())),
		"0=0 or 0<0 and 0<0":     node(api.OpOr, yes(), node(api.OpAnd, no(), no())),
		"(0=0 or 0<0) and 0<0":   node(api.OpAnd, node(api.OpOr, yes(), no()), no()),
		"0=0 or 0<0 or 0=0":      node(api.OpOr, node(api.OpOr, yes(), no()), yes()),
		"0=0 and 0<0 and 0=0":    node(api.OpAnd, node(api.OpAnd, yes(), no()), yes()),
		"if (0=0,1,if(0<0,2,3))": node(api.OpIf, yes(), num(1), node(api.OpIf, no(), num(2), num(3))),
		"if(0=0 or 0<0,1+1,(2))": node(api.OpIf, node(api.OpOr, yes(), no()), node(api.OpAdd, num(1), num(1)), num(2)),
		"1 + band < 2 * mode":    node(api.OpLess, node(api.OpAdd, num(1), fld(0)), node(api.OpMul, num(2), fld(1))),
		"1 + 2 * 3 = 7 and not band < 2": node(api.OpAnd,
			node(api.OpEqual, node(api.OpAdd, num(1), node(api.OpMul, num(2), num(3))), num(7)),
			node(api.OpNot, node(api.OpLess, fld(0), num(2)))),
	} {
		if got := mustParse(t, s); !equal(got, want) {
			t.Error(s, got)
		}
	}
	for i, name := range fieldNames {
		if got := mustParse(t, name); !equal(got, fld(i)) {
			t.Error(name, got)
		}
		if s, e := rules.PrintExpr(fld(i)); s != name || e != api.OK {
			t.Error(i, s, e)
		}
	}
}

// Texts that are wrong, and where they are first.
func TestParseExprWrong(t *testing.T) {
	for _, x := range []struct {
		s  string
		e  api.Errno
		at int
	}{
		{"", api.ErrSyntax, 0},
		{" \t ", api.ErrSyntax, 3},
		{"1 +", api.ErrSyntax, 3},
		{"1 + \t", api.ErrSyntax, 5},
		{"\n1", api.ErrSyntax, 0},
		{"1\n", api.ErrSyntax, 1},
		{"1 +\n2", api.ErrSyntax, 3},
		{"1 2", api.ErrSyntax, 2},
		{"band mode", api.ErrSyntax, 5},
		{"bands", api.ErrSyntax, 0},
		{"Band", api.ErrSyntax, 0},
		{"band1", api.ErrSyntax, 4},
		{"1band", api.ErrSyntax, 1},
		{"points", api.ErrSyntax, 0},
		{"1 + and", api.ErrSyntax, 4},
		{"1 + - 2", api.ErrSyntax, 4},
		{"- 2", api.ErrSyntax, 0},
		{"1 = 2 = 3", api.ErrSyntax, 6},
		{"1 < 2 = 3", api.ErrSyntax, 6},
		{"1 => 2", api.ErrSyntax, 2},
		{"1 = > 2", api.ErrSyntax, 4},
		{"1 =>2", api.ErrSyntax, 2},
		{"1 > 2", api.ErrSyntax, 2},
		{"1 + not 0 = 0", api.ErrSyntax, 4},
		{"0 = not 0 = 0", api.ErrSyntax, 4},
		{"(1", api.ErrSyntax, 2},
		{"(1))", api.ErrSyntax, 3},
		{"()", api.ErrSyntax, 1},
		{"(1, 2)", api.ErrSyntax, 2},
		{"1, 2", api.ErrSyntax, 1},
		{"if", api.ErrSyntax, 2},
		{"if 1", api.ErrSyntax, 3},
		{"if(1)", api.ErrSyntax, 4},
		{"if(1, 2)", api.ErrSyntax, 7},
		{"if(1, 2, 3, 4)", api.ErrSyntax, 10},
		{"if(1 2", api.ErrSyntax, 5},
		{"iff(1, 2, 3)", api.ErrSyntax, 0},
		{"1000001", api.ErrSyntax, 0},
		{"9999999", api.ErrSyntax, 0},
		{"00000001", api.ErrSyntax, 0},
		{"1 + 99999999999999999999999", api.ErrSyntax, 4},
		{"1 + 1000001 +", api.ErrSyntax, 4},
		{"1 \r", api.ErrSyntax, 2},
		{"1 + \x00", api.ErrSyntax, 4},
		{"\xff", api.ErrSyntax, 0},
		{"1 é", api.ErrSyntax, 2},
		{"1.5", api.ErrSyntax, 1},
		{"a_b", api.ErrSyntax, 0},
		{"(1 and 2)", api.ErrType, 0},
		{"  (1 and 2)", api.ErrType, 2},
		{"not 1", api.ErrType, 0},
		{"1 + (0 = 0)", api.ErrType, 0},
		{"(0 = 0) = (0 = 0)", api.ErrType, 0},
		{"if(1, 2, 3)", api.ErrType, 0},
		{"if(0 = 0, 0 = 0, 0 = 0)", api.ErrType, 0},
		// Several things wrong: the first one alone.
		{"(1 and 2) )", api.ErrSyntax, 10},
		{"not 1 2", api.ErrSyntax, 6},
		{"? 1000001", api.ErrSyntax, 0},
	} {
		got, e, at := rules.ParseExpr(x.s)
		if e != x.e || at != x.at || !equal(got, api.Expr{}) {
			t.Errorf("%q: %v %d %d", x.s, got, e, at)
		}
	}
}

// MaxDepth levels and parentheses, and one more.
func TestDepths(t *testing.T) {
	opened := func(n int) string { return strings.Repeat("(", n) }
	closed := func(n int) string { return strings.Repeat(")", n) }
	nots := func(n int) string { return strings.Repeat("not ", n) }
	ifs := func(n int) string { return strings.Repeat("if(0=0,1,", n) }
	for i, x := range []struct {
		s  string
		e  api.Errno
		at int
	}{
		{opened(32) + "1" + closed(32), api.OK, 0},
		{opened(33) + "1" + closed(33), api.ErrLimit, 32},
		{" " + opened(32) + " ( 1", api.ErrLimit, 34},
		{opened(33), api.ErrLimit, 32},
		{opened(32), api.ErrSyntax, 32},
		{opened(32) + "?(", api.ErrSyntax, 32},
		{opened(32) + "1(", api.ErrSyntax, 33},
		{opened(32) + "1)(", api.ErrSyntax, 34},
		{opened(32) + "1) + (2)" + closed(31), api.OK, 0},
		{opened(32) + "1) + ((2))" + closed(31), api.ErrLimit, 38},
		{strings.Repeat("(1) + ", 30) + "1", api.OK, 0},
		// The parenthesis of an `if` counts, and its word does not.
		{opened(32) + "if(0=0,1,2)" + closed(32), api.ErrLimit, 34},
		{opened(31) + "if(0=0,1,2)" + closed(31), api.OK, 0},
		{opened(31) + "if((0=0),1,2)" + closed(31), api.ErrLimit, 34},
		{ifs(30) + "1" + closed(30), api.OK, 0},
		{ifs(31) + "1" + closed(31), api.ErrLimit, 0},
		{ifs(32) + "1" + closed(32), api.ErrLimit, 0},
		{ifs(33) + "1" + closed(33), api.ErrLimit, 32*len(ifs(1)) + 2},
		{nots(30) + "0=0", api.OK, 0},
		{nots(31) + "0=0", api.ErrLimit, 0},
		{"\t" + nots(31) + "0=0", api.ErrLimit, 1},
		// Too many levels come before the type, and after what is behind the expression.
		{nots(33) + "1", api.ErrLimit, 0},
		{nots(33) + "0=0 )", api.ErrSyntax, 33*4 + 4},
		{"1" + strings.Repeat("+1", 31), api.OK, 0},
		{"1" + strings.Repeat("+1", 32), api.ErrLimit, 0},
		{"1" + strings.Repeat("*1", 32767), api.ErrLimit, 0},
		{nots(16000) + "1", api.ErrLimit, 0},
	} {
		if _, e, at := rules.ParseExpr(x.s); e != x.e || at != x.at {
			t.Error(i, x.s[:min(len(x.s), 60)], e, at)
		}
		if x.e == api.ErrType || len(x.s) > api.MaxText-9 {
			continue
		}
		// The same in a book, behind `repeat: ` (there a truth is of the wrong type).
		e, at := x.e, x.at
		if at += 8; e == api.OK {
			at = 0
			if got := mustParse(t, x.s); typeBy(got) == "t" {
				e, at = api.ErrType, 8
			}
		} else if e == api.ErrLimit && x.at == 1 {
			at = 9
		}
		if _, f, n := rules.Parse("repeat: " + x.s + "\n"); f != e || n != at {
			t.Error(i, f, n, e, at)
		}
	}
}

func TestMaxText(t *testing.T) {
	pad := func(s string, n int) string { return s + strings.Repeat(" ", n-len(s)) }
	if got, e, at := rules.ParseExpr(pad("zone", api.MaxText)); !equal(got, fld(7)) || e != api.OK || at != 0 {
		t.Error(got, e, at)
	}
	if b, e, at := rules.Parse(pad("repeat: 1", api.MaxText)); len(b.Repeats) != 1 || e != api.OK || at != 0 {
		t.Error(e, at)
	}
	if b, e, at := rules.Parse(strings.Repeat("\n", api.MaxText)); !equalBooks(b, api.Book{}) || e != api.OK || at != 0 {
		t.Error(b, e, at)
	}
	for _, s := range []string{pad("zone", api.MaxText+1), pad("", api.MaxText+1), pad("?", api.MaxText+1), strings.Repeat("\n", api.MaxText+1), strings.Repeat("(", api.MaxText+1)} {
		if got, e, at := rules.ParseExpr(s); !equal(got, api.Expr{}) || e != api.ErrLimit || at != 0 {
			t.Error(got, e, at)
		}
		if b, e, at := rules.Parse(s); !equalBooks(b, api.Book{}) || e != api.ErrLimit || at != 0 {
			t.Error(b, e, at)
		}
	}
	if _, e, at := rules.ParseExpr(pad("1 +", api.MaxText)); e != api.ErrSyntax || at != api.MaxText {
		t.Error(e, at)
	}
	if _, e, at := rules.ParseExpr(strings.Repeat("1", api.MaxText)); e != api.ErrSyntax || at != 0 {
		t.Error(e, at)
	}
}

func TestParse(t *testing.T) {
	band := func(n int) api.Expr { return node(api.OpEqual, fld(0), num(n)) }
	clause := func(n, k int) api.Clause { return api.Clause{When: band(n), Then: num(k)} }
	for s, want := range map[string]api.Book{
		"":                                  {},
		"\n":                                {},
		" \n\t\n \n":                        {},
		" \t":                               {},
		"points: band = 1 => 2":             {Points: []api.Clause{clause(1, 2)}},
		"points: band = 1 => 2\n":           {Points: []api.Clause{clause(1, 2)}},
		"\n\npoints:band=1=>2\n\n \n":       {Points: []api.Clause{clause(1, 2)}},
		"points : band =1=> 2 \t":           {Points: []api.Clause{clause(1, 2)}},
		"multiplier: band = 1 => 2":         {Multipliers: []api.Clause{clause(1, 2)}},
		"penalty: (band = 1) => (2)\n":      {Penalties: []api.Clause{clause(1, 2)}},
		"repeat: band + 1":                  {Repeats: []api.Expr{node(api.OpAdd, fld(0), num(1))}},
		"repeat: 2\nrepeat: 1\n\nrepeat: 2": {Repeats: []api.Expr{num(2), num(1), num(2)}},
		// Parts in any order: those of one kind keep theirs.
		"repeat: 3\npenalty: band = 1 => 9\npoints: band = 2 => 1\nrepeat: 1\nmultiplier: band = 3 => 4\npoints: band = 1 => 5\n": {
			Points: []api.Clause{clause(2, 1), clause(1, 5)}, Multipliers: []api.Clause{clause(3, 4)}, Penalties: []api.Clause{clause(1, 9)}, Repeats: []api.Expr{num(3), num(1)},
		},
	} {
		if b, e, at := rules.Parse(s); !equalBooks(b, want) || e != api.OK || at != 0 {
			t.Errorf("%q: %v %d %d", s, b, e, at)
		}
	}
}

func TestParseWrong(t *testing.T) {
	deepSum := "1" + strings.Repeat(" + 1", 32)
	deepNot := strings.Repeat("not ", 31) + "0 = 0"
	points := func(n int) string { return strings.Repeat("points: 0 = 0 => 1\n", n) }
	for _, x := range []struct {
		s  string
		e  api.Errno
		at int
	}{
		{"points: band => 2", api.ErrType, 8},
		{"points:  (band) => 2", api.ErrType, 9},
		{"points: 0 = 0 => 0 = 0", api.ErrType, 17},
		{"multiplier: 1 => 2", api.ErrType, 12},
		{"penalty: 0 = 0 => not 0 = 0\n", api.ErrType, 18},
		{"repeat: 0 = 0", api.ErrType, 8},
		{"repeat: 1 and 1\nrepeat: 1 1", api.ErrType, 8},
		{"points", api.ErrSyntax, 6},
		{"points\n", api.ErrSyntax, 6},
		{"points 1", api.ErrSyntax, 7},
		{"point: 0 = 0 => 1", api.ErrSyntax, 0},
		{"Points: 0 = 0 => 1", api.ErrSyntax, 0},
		{"band: 0 = 0 => 1", api.ErrSyntax, 0},
		{": 1", api.ErrSyntax, 0},
		{"1", api.ErrSyntax, 0},
		{"points:", api.ErrSyntax, 7},
		{"points:\n0 = 0 => 1", api.ErrSyntax, 7},
		{"points: 0 = 0", api.ErrSyntax, 13},
		{"points: 0 = 0\n=> 1", api.ErrSyntax, 13},
		{"points: 0 = 0 =>", api.ErrSyntax, 16},
		{"points: 0 = 0 = > 1", api.ErrSyntax, 14},
		{"points: band=>1=>2", api.ErrSyntax, 15},
		{"points: 0 = 0 => 1 => 2", api.ErrSyntax, 19},
		{"points: 0 = 0 => 1 points: 0 = 0 => 1", api.ErrSyntax, 19},
		{"repeat: 1 => 2", api.ErrSyntax, 10},
		{"repeat: 1 repeat: 1", api.ErrSyntax, 10},
		{"repeat: 1\r\n", api.ErrSyntax, 9},
		{"repeat: 1\n?", api.ErrSyntax, 10},
		{"repeat: (1\n)", api.ErrSyntax, 10},
		// The token behind a part comes first, then the number of parts, then the first expression, its levels before its type.
		{"points: 1 => 0 = 0 )", api.ErrSyntax, 19},
		{"points: 1 => " + deepSum, api.ErrType, 8},
		{"points: " + deepNot + " => 0 = 0", api.ErrLimit, 8},
		{"points: " + deepSum + " => 1", api.ErrLimit, 8},
		{"points: 0 = 0 => (" + deepSum + ")", api.ErrLimit, 17},
		{"points: 0 = 0 => " + deepNot, api.ErrLimit, 17},
		{"repeat: \t" + deepNot + "\n", api.ErrLimit, 9},
		{points(64), api.OK, 0},
		{points(65), api.ErrLimit, 64 * 19},
		{points(64) + "\n \tpoints: 0 = 0 => 1", api.ErrLimit, 64*19 + 3},
		{points(64) + "points: 1 => 0 = 0", api.ErrLimit, 64 * 19},
		{points(64) + "points: " + deepSum + " => 1", api.ErrLimit, 64 * 19},
		{points(64) + "points: 0 = 0 => 1 1", api.ErrSyntax, 64*19 + 19},
		{points(64) + "points: 0 = 0", api.ErrSyntax, 64*19 + 13},
		{points(64) + "points: " + strings.Repeat("(", 33), api.ErrLimit, 64*19 + 8 + 32},
		{points(63) + "points: 1 => 2\n" + points(9), api.ErrType, 63*19 + 8},
		{points(64) + "repeat: 1\nrepeat: 0 = 0", api.ErrType, 64*19 + 18},
		{strings.Repeat("repeat: 1\n", 65), api.ErrLimit, 640},
		{strings.Repeat("repeat: 1\n", 64) + "repeat: 0 = 0", api.ErrLimit, 640},
		{strings.Repeat("penalty: 0 = 0 => 1\n", 65), api.ErrLimit, 64 * 20},
		{strings.Repeat("multiplier: 0 = 0 => 1\n", 65), api.ErrLimit, 64 * 23},
		{strings.Repeat("multiplier: 0 = 0 => 1\npenalty: 0 = 0 => 1\nrepeat: 1\npoints: 0 = 0 => 1\n", 64), api.OK, 0},
		{strings.Repeat("multiplier: 0 = 0 => 1\npenalty: 0 = 0 => 1\nrepeat: 1\npoints: 0 = 0 => 1\n", 64) + "penalty: 0 = 0 => 1", api.ErrLimit, 64 * 72},
	} {
		b, e, at := rules.Parse(x.s)
		if e != x.e || at != x.at || e != api.OK && !equalBooks(b, api.Book{}) {
			t.Errorf("%q: %d %d, not %d %d", x.s[max(0, len(x.s)-60):], e, at, x.e, x.at)
		}
	}
}

// R9: each operator and each rank in each place.
func TestPrintExprPlaces(t *testing.T) {
	kids := map[string][]api.Expr{
		"n": {num(3), fld(1), node(api.OpAdd, num(1), fld(2)), node(api.OpSub, num(1), fld(2)), node(api.OpMul, num(1), fld(2)), node(api.OpIf, yes(), num(1), fld(2))},
		"t": {yes(), no(), node(api.OpNot, yes()), node(api.OpAnd, yes(), no()), node(api.OpOr, yes(), no())},
	}
	for op, s := range signatures {
		for i := range len(s) - 1 {
			for _, kid := range kids[s[i:i+1]] {
				e := api.Expr{Op: op}
				for k := range len(s) - 1 {
					e.Kids = append(e.Kids, kids[s[k:k+1]][0])
				}
				e.Kids[i] = kid
				text, errno := rules.PrintExpr(e)
				if want := written(e, needed); text != want || errno != api.OK {
					t.Error(text, want, errno)
				}
				if got := mustParse(t, text); !equal(got, e) {
					t.Error(text, got)
				}
			}
		}
	}
	for want, e := range map[string]api.Expr{
		"(1 + band) * 2":                 node(api.OpMul, node(api.OpAdd, num(1), fld(0)), num(2)),
		"2 * (1 + band)":                 node(api.OpMul, num(2), node(api.OpAdd, num(1), fld(0))),
		"2 * 1 + band":                   node(api.OpAdd, node(api.OpMul, num(2), num(1)), fld(0)),
		"2 * (1 * band)":                 node(api.OpMul, num(2), node(api.OpMul, num(1), fld(0))),
		"2 * 1 * band":                   node(api.OpMul, node(api.OpMul, num(2), num(1)), fld(0)),
		"2 - (1 - band)":                 node(api.OpSub, num(2), node(api.OpSub, num(1), fld(0))),
		"2 - 1 - band":                   node(api.OpSub, node(api.OpSub, num(2), num(1)), fld(0)),
		"2 + (1 + band)":                 node(api.OpAdd, num(2), node(api.OpAdd, num(1), fld(0))),
		"not not 0 = 0":                  node(api.OpNot, node(api.OpNot, yes())),
		"not (0 = 0 and 0 < 0)":          node(api.OpNot, node(api.OpAnd, yes(), no())),
		"0 = 0 and (0 < 0 and 0 = 0)":    node(api.OpAnd, yes(), node(api.OpAnd, no(), yes())),
		"0 = 0 or (0 < 0 or 0 = 0)":      node(api.OpOr, yes(), node(api.OpOr, no(), yes())),
		"0 = 0 or 0 < 0 or 0 = 0":        node(api.OpOr, node(api.OpOr, yes(), no()), yes()),
		"0 = 0 or 0 < 0 and 0 = 0":       node(api.OpOr, yes(), node(api.OpAnd, no(), yes())),
		"(0 = 0 or 0 < 0) and 0 = 0":     node(api.OpAnd, node(api.OpOr, yes(), no()), yes()),
		"if(0 = 0 or 0 < 0, 1 - 1, 7)":   node(api.OpIf, node(api.OpOr, yes(), no()), node(api.OpSub, num(1), num(1)), num(7)),
		"if(0 = 0, 1, 2) * if(0<0,3, 4)": node(api.OpMul, node(api.OpIf, yes(), num(1), num(2)), node(api.OpIf, no(), num(3), num(4))),
		"1000000 + status < 0 - power":   node(api.OpLess, node(api.OpAdd, num(api.MaxValue), fld(13)), node(api.OpSub, num(0), fld(12))),
	} {
		want = strings.ReplaceAll(strings.ReplaceAll(want, "0<0", "0 < 0"), ",3", ", 3")
		if text, errno := rules.PrintExpr(e); text != want || errno != api.OK {
			t.Error(text, want, errno)
		}
	}
}

func TestPrint(t *testing.T) {
	b := api.Book{
		Points:      []api.Clause{{When: yes(), Then: num(2)}, {When: node(api.OpOr, yes(), no()), Then: fld(7)}},
		Multipliers: []api.Clause{{When: no(), Then: node(api.OpIf, no(), num(1), num(2))}},
		Penalties:   []api.Clause{{When: node(api.OpNot, no()), Then: num(0)}},
		Repeats:     []api.Expr{fld(9), node(api.OpSub, fld(0), num(1))},
	}
	want := `points: 0 = 0 => 2
points: 0 = 0 or 0 < 0 => zone
multiplier: 0 < 0 => if(0 < 0, 1, 2)
penalty: not 0 < 0 => 0
repeat: call
repeat: band - 1
`
	if s, e := rules.Print(b); s != want || e != api.OK {
		t.Error(s, e)
	}
	if s, e := rules.Print(api.Book{}); s != "" || e != api.OK {
		t.Error(s, e)
	}
}

// P6.2: expressions that are printed and read back; more parentheses change nothing.
func TestExprAndBack(t *testing.T) {
	r := rand.New(rand.NewPCG(6, 2))
	for range 6000 {
		e := anyExpr(r, []string{"n", "t"}[r.IntN(2)], 2+r.IntN(6))
		text, errno := rules.PrintExpr(e)
		if want := written(e, needed); text != want || errno != api.OK {
			t.Fatal(text, want, errno)
		}
		if got := mustParse(t, text); !equal(got, e) {
			t.Fatal(text, got)
		}
		if got := mustParse(t, "("+written(e, always)+")"); !equal(got, e) {
			t.Fatal(text, got)
		}
		some := func(op, i int, kid api.Expr) bool { return needed(op, i, kid) || r.IntN(3) == 0 }
		if got := mustParse(t, spaced(r, written(e, some))); !equal(got, e) {
			t.Fatal(text, got)
		}
	}
	for levels := 2; levels <= 32; levels++ {
		for _, e := range []api.Expr{deep("n", levels), deep("t", levels), rightmost(api.OpSub, levels), rightmost(api.OpMul, levels), rightmost(api.OpIf, levels), nested(levels)} {
			text, errno := rules.PrintExpr(e)
			if got := mustParse(t, text); errno != api.OK || !equal(got, e) || text != written(e, needed) {
				t.Fatal(levels, text, got)
			}
		}
	}
}

// rightmost returns an expression of so many levels, all on the right.
func rightmost(op, levels int) api.Expr {
	e := node(api.OpAdd, fld(1), num(1))
	for range levels - 2 {
		kids := []api.Expr{num(1), e}
		if op == api.OpIf {
			kids = []api.Expr{yes(), num(1), e}
		}
		e = node(op, kids...)
	}
	return e
}

// nested returns a truth of so many levels with as many parentheses as it can have.
func nested(levels int) api.Expr {
	e := yes()
	for range levels - 2 {
		op := api.OpAnd
		if e.Op == api.OpAnd {
			op = api.OpOr
		}
		e = node(op, no(), e)
	}
	return e
}

// tokensBy splits a text into tokens without the end; wide blanks are none.
func tokensBy(s string) (texts []string, at []int) {
	for i := 0; i < len(s); {
		if s[i] == ' ' || s[i] == '\t' {
			i++
			continue
		}
		k := i + 1
		for _, class := range []string{"0123456789", "abcdefghijklmnopqrstuvwxyz"} {
			for strings.IndexByte(class, s[i]) >= 0 && k < len(s) && strings.IndexByte(class, s[k]) >= 0 {
				k++
			}
		}
		if s[i] == '=' && k < len(s) && s[k] == '>' {
			k++
		}
		texts, at = append(texts, s[i:k]), append(at, i)
		i = k
	}
	return texts, at
}

// spaced returns a text with other blanks between its tokens, and none where none are needed.
func spaced(r *rand.Rand, s string) string {
	texts, _ := tokensBy(s)
	var b strings.Builder
	for i, text := range texts {
		glued := i > 0 && text[0] >= 'a' && text[0] <= 'z' && texts[i-1][0] >= 'a' && texts[i-1][0] <= 'z'
		if gap := []string{"", "", " ", "\t", " \t  "}[r.IntN(5)]; gap != "" || !glued {
			b.WriteString(gap)
		} else {
			b.WriteString(" ")
		}
		b.WriteString(text)
	}
	return b.String() + []string{"", " ", "\t"}[r.IntN(3)]
}

// P6.2: books that are printed and read back; blanks and empty lines change nothing.
func TestBookAndBack(t *testing.T) {
	r := rand.New(rand.NewPCG(6, 22))
	for range 1500 {
		b := anyBook(r, 4, 2+r.IntN(4))
		text, e := rules.Print(b)
		if e != api.OK {
			t.Fatal(e)
		}
		var loose strings.Builder
		for line := range strings.Lines(text) {
			loose.WriteString(strings.Repeat("\n", r.IntN(3)) + spaced(r, line) + strings.Repeat(" \n", r.IntN(2)))
		}
		for _, s := range []string{text, loose.String(), strings.TrimSuffix(text, "\n"), shuffled(r, text)} {
			got, e, at := rules.Parse(s)
			if e != api.OK || at != 0 || !equalBooks(got, b) {
				t.Fatalf("%q %v %d %d", s, got, e, at)
			}
			if again, e := rules.Print(got); again != text || e != api.OK {
				t.Fatal(again, e)
			}
		}
	}
}

// shuffled mixes the lines of a text, so that those with one first word keep their order.
func shuffled(r *rand.Rand, text string) string {
	kinds := map[string][]string{}
	var words []string
	for line := range strings.Lines(text) {
		word, _, _ := strings.Cut(line, ":")
		kinds[word] = append(kinds[word], line)
		words = append(words, word)
	}
	r.Shuffle(len(words), func(i, k int) { words[i], words[k] = words[k], words[i] })
	var b strings.Builder
	for _, word := range words {
		b.WriteString(kinds[word][0])
		kinds[word] = kinds[word][1:]
	}
	return b.String()
}
