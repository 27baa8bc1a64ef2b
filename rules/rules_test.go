package rules_test

import (
	"math"
	"math/rand/v2"
	"reflect"
	"slices"
	"testing"

	"pileup/api"
	"pileup/rules"
)

const (
	most  = math.MaxInt
	least = math.MinInt
)

// num, fld and node put expressions together.
func num(n int) api.Expr { return api.Expr{Op: api.OpNumber, Value: n} }
func fld(n int) api.Expr { return api.Expr{Op: api.OpField, Value: n} }
func node(op int, kids ...api.Expr) api.Expr {
	return api.Expr{Op: op, Kids: kids}
}

// yes and no are the truths of R21.
func yes() api.Expr { return node(api.OpEqual, num(0), num(0)) }
func no() api.Expr  { return node(api.OpLess, num(0), num(0)) }

// signatures are the types of the kids of operators, and their own ones, as the chapter's table has them: n is a number and t a truth.
var signatures = map[int]string{
	api.OpNumber: "n", api.OpField: "n",
	api.OpNot: "tt", api.OpAnd: "ttt", api.OpOr: "ttt",
	api.OpEqual: "nnt", api.OpLess: "nnt",
	api.OpAdd: "nnn", api.OpSub: "nnn", api.OpMul: "nnn",
	api.OpIf: "tnnn",
}

// letters are the letters of types.
var letters = map[int]string{api.TypeNumber: "n", api.TypeTruth: "t"}

// opsOf returns the operators with kids that have a type, by its letter.
func opsOf(letter string) []int {
	var l []int
	for op := api.OpNot; op <= api.OpIf; op++ {
		s := signatures[op]
		if s[len(s)-1:] == letter {
			l = append(l, op)
		}
	}
	return l
}

// leaf returns a random number or field of few, so that equal ones meet.
func leaf(r *rand.Rand) api.Expr {
	if r.IntN(2) == 0 {
		return fld(r.IntN(3))
	}
	return num([]int{0, 1, 2, 3, 7, 1000, api.MaxValue - 1, api.MaxValue}[r.IntN(8)])
}

// anyExpr returns a random expression with a type, by its letter, of at most so many levels (2 at least for a truth).
func anyExpr(r *rand.Rand, letter string, levels int) api.Expr {
	if letter == "n" && (levels <= 2 && r.IntN(2) == 0 || levels == 1 || r.IntN(6) == 0) {
		return leaf(r)
	}
	ops := opsOf(letter)
	if letter == "t" && levels == 2 {
		ops = []int{api.OpEqual, api.OpLess}
	}
	if letter == "n" && levels == 2 {
		ops = []int{api.OpAdd, api.OpSub, api.OpMul}
	}
	op := ops[r.IntN(len(ops))]
	s := signatures[op]
	e := api.Expr{Op: op}
	for i := range len(s) - 1 {
		e.Kids = append(e.Kids, anyExpr(r, s[i:i+1], levels-1))
	}
	return e
}

// spoilt returns an expression with something changed in one of its nodes.
func spoilt(r *rand.Rand, e api.Expr) api.Expr {
	e.Kids = slices.Clone(e.Kids)
	if n := len(e.Kids); n > 0 && r.IntN(3) > 0 {
		i := r.IntN(n)
		e.Kids[i] = spoilt(r, e.Kids[i])
		return e
	}
	switch r.IntN(4) {
	case 0:
		e.Op = r.IntN(14) - 1
	case 1:
		e.Value = []int{-1, 0, 1, 13, 14, api.MaxValue, api.MaxValue + 1}[r.IntN(7)]
	case 2:
		e.Kids = append(e.Kids, anyExpr(r, []string{"n", "t"}[r.IntN(2)], 2))
	default:
		e.Kids = e.Kids[:max(0, len(e.Kids)-1)]
	}
	return e
}

// deep returns an expression of a type, by its letter, with so many levels; those of truths have at least 2.
func deep(letter string, levels int) api.Expr {
	if letter == "t" {
		e := yes()
		for range levels - 2 {
			e = node(api.OpNot, e)
		}
		return e
	}
	e := fld(0)
	for range levels - 1 {
		e = node(api.OpAdd, e, num(1))
	}
	return e
}

// copied returns an expression in other memory.
func copied(e api.Expr) api.Expr {
	var kids []api.Expr
	for _, kid := range e.Kids {
		kids = append(kids, copied(kid))
	}
	e.Kids = kids
	return e
}

// equal reports whether expressions are equal in all nodes.
func equal(a, b api.Expr) bool {
	return a.Op == b.Op && a.Value == b.Value && slices.EqualFunc(a.Kids, b.Kids, equal)
}

// equalClauses and equalBooks report the same of clauses and books.
func equalClauses(a, b []api.Clause) bool {
	return slices.EqualFunc(a, b, func(x, y api.Clause) bool { return equal(x.When, y.When) && equal(x.Then, y.Then) })
}

func equalBooks(a, b api.Book) bool {
	return equalClauses(a.Points, b.Points) && equalClauses(a.Multipliers, b.Multipliers) &&
		equalClauses(a.Penalties, b.Penalties) && slices.EqualFunc(a.Repeats, b.Repeats, equal)
}

// levelsOf is the number of levels by the words of the chapter.
func levelsOf(e api.Expr) int {
	below := []int{0}
	for _, kid := range e.Kids {
		below = append(below, levelsOf(kid))
	}
	return 1 + slices.Max(below)
}

// typeBy returns the letter of an expression's type by the words of the chapter, or nothing.
func typeBy(e api.Expr) string {
	s, ok := signatures[e.Op]
	if !ok || e.Value < 0 {
		return ""
	}
	switch {
	case e.Op == api.OpNumber && e.Value > api.MaxValue, e.Op == api.OpField && e.Value > 13, e.Op > api.OpField && e.Value > 0:
		return ""
	}
	kids := ""
	for _, kid := range e.Kids {
		k := typeBy(kid)
		if k == "" {
			return ""
		}
		kids += k
	}
	if kids != s[:len(s)-1] {
		return ""
	}
	return s[len(s)-1:]
}

// anyClause returns a random sound clause.
func anyClause(r *rand.Rand, levels int) api.Clause {
	return api.Clause{When: anyExpr(r, "t", levels), Then: anyExpr(r, "n", levels)}
}

// anyClauses returns at most n random sound clauses.
func anyClauses(r *rand.Rand, n, levels int) []api.Clause {
	var l []api.Clause
	for range r.IntN(n + 1) {
		l = append(l, anyClause(r, levels))
	}
	return l
}

// anyBook returns a random valid book.
func anyBook(r *rand.Rand, n, levels int) api.Book {
	b := api.Book{Points: anyClauses(r, n, levels), Multipliers: anyClauses(r, n, levels), Penalties: anyClauses(r, n, levels)}
	for range r.IntN(n + 1) {
		b.Repeats = append(b.Repeats, anyExpr(r, "n", levels))
	}
	return b
}

// many returns n clauses.
func many(n int) []api.Clause {
	var l []api.Clause
	for i := range n {
		l = append(l, api.Clause{When: node(api.OpEqual, fld(0), num(i)), Then: num(i)})
	}
	return l
}

// zeros returns facts that are all 0 but for some of the first fields.
func zeros(first ...int) []int { return append(first, make([]int, api.MaxFields-len(first))...) }

// spans returns domains with one element, 0, but for some of the first fields.
func spans(first ...api.Span) []api.Span {
	return append(first, make([]api.Span, api.MaxFields-len(first))...)
}

// badExprs are expressions that are not sound.
func badExprs() []api.Expr {
	return []api.Expr{
		{}, {Op: -1}, {Op: 12}, {Op: most}, {Op: least},
		num(-1), num(api.MaxValue + 1), num(most), num(least),
		fld(-1), fld(api.MaxFields), fld(most), fld(least),
		{Op: api.OpNumber, Kids: []api.Expr{num(1)}}, {Op: api.OpField, Kids: []api.Expr{num(1)}},
		{Op: api.OpAdd, Value: 1, Kids: []api.Expr{num(1), num(1)}},
		{Op: api.OpNot, Value: -1, Kids: []api.Expr{yes()}},
		node(api.OpNot), node(api.OpNot, num(1)), node(api.OpNot, yes(), yes()),
		node(api.OpAnd, yes()), node(api.OpAnd, yes(), num(1)), node(api.OpOr, num(1), yes()), node(api.OpOr, yes(), yes(), yes()),
		node(api.OpEqual, yes(), num(1)), node(api.OpLess, num(1), yes()),
		node(api.OpAdd, num(1)), node(api.OpSub, num(1), yes()), node(api.OpMul, yes(), num(1)),
		node(api.OpIf, yes(), num(1)), node(api.OpIf, num(1), num(1), num(1)), node(api.OpIf, yes(), yes(), yes()), node(api.OpIf, yes(), num(1), num(1), num(1)),
		deep("n", api.MaxDepth+1), deep("t", api.MaxDepth+1), deep("n", 3000), deep("t", 3000),
	}
}

func TestType(t *testing.T) {
	for i, x := range []struct {
		e    api.Expr
		want int
	}{
		{num(0), api.TypeNumber}, {num(api.MaxValue), api.TypeNumber}, {fld(0), api.TypeNumber}, {fld(13), api.TypeNumber},
		{yes(), api.TypeTruth}, {no(), api.TypeTruth}, {node(api.OpNot, no()), api.TypeTruth},
		{node(api.OpIf, yes(), num(1), fld(2)), api.TypeNumber},
		{deep("n", 32), api.TypeNumber}, {deep("t", 32), api.TypeTruth},
		// R3: whatever its levels are.
		{deep("n", 33), api.TypeNumber}, {deep("t", 33), api.TypeTruth}, {deep("n", 60000), api.TypeNumber},
	} {
		if got, e := rules.Type(x.e); got != x.want || e != api.OK {
			t.Error(i, got, e)
		}
	}
	for i, x := range badExprs() {
		got, e := rules.Type(x)
		if levelsOf(x) > api.MaxDepth {
			continue // these have a type
		}
		if got != 0 || e != api.ErrType {
			t.Error(i, got, e)
		}
	}
}

// R3, R4, R5: by the words of the chapter, for expressions that have a type and that have none.
func TestTypeOfAny(t *testing.T) {
	r := rand.New(rand.NewPCG(6, 3))
	for range 20000 {
		e := anyExpr(r, []string{"n", "t"}[r.IntN(2)], 2+r.IntN(4))
		for range r.IntN(3) {
			e = spoilt(r, e)
		}
		before := copied(e)
		got, errno := rules.Type(e)
		if letters[got] != typeBy(e) || (errno == api.OK) != (got != 0) || errno != api.OK && errno != api.ErrType {
			t.Fatal(e, got, errno)
		}
		if n := rules.Depth(e); n != levelsOf(e) {
			t.Fatal(e, n)
		}
		if l := rules.Fields(e); !slices.Equal(l, fieldsBy(e)) {
			t.Fatal(e, l)
		}
		if !equal(e, before) {
			t.Fatal("an argument was changed")
		}
	}
}

// fieldsBy returns the fields of an expression by the words of the chapter.
func fieldsBy(e api.Expr) []int {
	var l []int
	if e.Op == api.OpField && e.Value >= 0 && e.Value <= 13 {
		l = append(l, e.Value)
	}
	for _, kid := range e.Kids {
		l = append(l, fieldsBy(kid)...)
	}
	slices.Sort(l)
	return slices.Compact(l)
}

func TestFieldsAndDepth(t *testing.T) {
	for i, x := range []struct {
		e      api.Expr
		fields []int
		depth  int
	}{
		{api.Expr{}, nil, 1},
		{num(3), nil, 1},
		{fld(13), []int{13}, 1},
		{fld(14), nil, 1}, {fld(-1), nil, 1},
		{node(api.OpAdd, fld(5), node(api.OpMul, fld(0), fld(5))), []int{0, 5}, 3},
		// R4, R5: expressions without a type, even with kids where none belong.
		{node(99, fld(2), api.Expr{Op: api.OpField, Value: 1, Kids: []api.Expr{fld(7), num(8)}}), []int{1, 2, 7}, 3},
		{api.Expr{Op: api.OpNumber, Value: 4, Kids: []api.Expr{fld(3)}}, []int{3}, 2},
		{deep("n", 60000), []int{0}, 60000},
		{deep("t", 33), nil, 33},
	} {
		if l := rules.Fields(x.e); !slices.Equal(l, x.fields) {
			t.Error(i, l)
		}
		if n := rules.Depth(x.e); n != x.depth {
			t.Error(i, n)
		}
	}
}

func TestCheck(t *testing.T) {
	clause := api.Clause{When: yes(), Then: num(1)}
	full := api.Book{Points: many(64), Multipliers: many(64), Penalties: many(64), Repeats: make([]api.Expr, 64)}
	for i := range full.Repeats {
		full.Repeats[i] = num(i)
	}
	for i, b := range []api.Book{{}, {Points: []api.Clause{clause}}, {Repeats: []api.Expr{deep("n", 32)}}, full} {
		if e, n := rules.Check(b); e != api.OK || n != 0 || !rules.Valid(b) {
			t.Error(i, e, n)
		}
	}
	bad := func(l []api.Clause) []api.Clause { return append(l, api.Clause{When: num(1), Then: num(1)}) }
	for i, x := range []struct {
		b    api.Book
		e    api.Errno
		part int
	}{
		{api.Book{Points: many(65)}, api.ErrLimit, 0},
		{api.Book{Multipliers: many(65)}, api.ErrLimit, 0},
		{api.Book{Penalties: many(65)}, api.ErrLimit, 0},
		{api.Book{Repeats: make([]api.Expr, 65)}, api.ErrLimit, 0},
		{api.Book{Points: bad(nil), Penalties: many(65)}, api.ErrLimit, 0},
		{api.Book{Points: bad(nil)}, api.ErrBook, 1},
		{api.Book{Points: bad(many(3))}, api.ErrBook, 4},
		{api.Book{Points: many(3), Multipliers: bad(many(2)), Penalties: bad(nil)}, api.ErrBook, 6},
		{api.Book{Points: many(3), Multipliers: many(2), Penalties: bad(many(1)), Repeats: make([]api.Expr, 1)}, api.ErrBook, 7},
		{api.Book{Points: many(3), Multipliers: many(2), Penalties: many(1), Repeats: []api.Expr{num(1), yes()}}, api.ErrBook, 8},
		{api.Book{Points: many(64), Multipliers: many(64), Penalties: many(64), Repeats: append(slices.Clone(full.Repeats[:63]), api.Expr{})}, api.ErrBook, 256},
		{api.Book{Points: []api.Clause{{When: yes(), Then: yes()}}}, api.ErrBook, 1},
		{api.Book{Points: []api.Clause{{When: deep("t", 33), Then: num(1)}}}, api.ErrBook, 1},
		{api.Book{Points: []api.Clause{{When: yes(), Then: deep("n", 33)}}}, api.ErrBook, 1},
		{api.Book{Repeats: []api.Expr{deep("n", 33)}}, api.ErrBook, 1},
	} {
		if e, n := rules.Check(x.b); e != x.e || n != x.part || rules.Valid(x.b) {
			t.Error(i, e, n)
		}
	}
	for i, x := range badExprs() {
		for k, b := range []api.Book{{Points: []api.Clause{clause, {When: x, Then: num(1)}}}, {Multipliers: []api.Clause{clause, {When: yes(), Then: x}}}, {Repeats: []api.Expr{num(1), x}}} {
			if e, n := rules.Check(b); e != api.ErrBook || n != 2 {
				t.Error(i, k, e, n)
			}
		}
	}
}

// R1, R2: random books of which some parts are spoilt.
func TestCheckAny(t *testing.T) {
	r := rand.New(rand.NewPCG(6, 1))
	sound := func(e api.Expr, letter string) bool { return typeBy(e) == letter && levelsOf(e) <= 32 }
	for range 4000 {
		b := anyBook(r, 3, 2+r.IntN(3))
		for _, l := range [][]api.Clause{b.Points, b.Multipliers, b.Penalties} {
			for i := range l {
				switch r.IntN(12) {
				case 0:
					l[i].When = spoilt(r, l[i].When)
				case 1:
					l[i].Then = spoilt(r, l[i].Then)
				}
			}
		}
		for i := range b.Repeats {
			if r.IntN(8) == 0 {
				b.Repeats[i] = spoilt(r, b.Repeats[i])
			}
		}
		var parts []bool
		for _, c := range slices.Concat(b.Points, b.Multipliers, b.Penalties) {
			parts = append(parts, sound(c.When, "t") && sound(c.Then, "n"))
		}
		for _, e := range b.Repeats {
			parts = append(parts, sound(e, "n"))
		}
		want, part := api.OK, slices.Index(parts, false)+1
		if part > 0 {
			want = api.ErrBook
		}
		if e, n := rules.Check(b); e != want || n != part || rules.Valid(b) != (want == api.OK) {
			t.Fatal(b, e, n, want, part)
		}
	}
}

// A call is a function with the errors of the section Errors, all arguments at once; it reports whether there is another result than zero.
type call struct {
	name string
	has  string // the kinds of arguments: b for a book, e for an expression, c for clauses, f for facts, d for domains
	f    func(a arguments) (bool, api.Errno)
}

// arguments are arguments of any function.
type arguments struct {
	book    api.Book
	expr    api.Expr
	clauses []api.Clause
	facts   []int
	domains []api.Span
}

// fine returns arguments that are all as they must be.
func fine() arguments {
	return arguments{api.Book{Points: many(2)}, fld(0), many(2), zeros(1), spans(api.Span{Lo: 1, Hi: 2})}
}

// some reports whether a value is not zero: neither 0, nor empty.
func some(x any) bool {
	v := reflect.ValueOf(x)
	return !v.IsZero() && (v.Kind() != reflect.Slice || v.Len() > 0)
}

// calls are all functions with the errors of the section Errors.
func calls() []call {
	return []call{
		{"Print", "b", func(a arguments) (bool, api.Errno) { x, e := rules.Print(a.book); return some(x), e }},
		{"PrintExpr", "e", func(a arguments) (bool, api.Errno) { x, e := rules.PrintExpr(a.expr); return some(x), e }},
		{"Eval", "ef", func(a arguments) (bool, api.Errno) { x, e := rules.Eval(a.expr, a.facts); return some(x), e }},
		{"First", "cf", func(a arguments) (bool, api.Errno) { x, e := rules.First(a.clauses, a.facts); return some(x), e }},
		{"Points", "bf", func(a arguments) (bool, api.Errno) { x, e := rules.Points(a.book, a.facts); return some(x), e }},
		{"Penalty", "bf", func(a arguments) (bool, api.Errno) { x, e := rules.Penalty(a.book, a.facts); return some(x), e }},
		{"Keys", "bf", func(a arguments) (bool, api.Errno) { x, e := rules.Keys(a.book, a.facts); return some(x), e }},
		{"Repeat", "bf", func(a arguments) (bool, api.Errno) { x, e := rules.Repeat(a.book, a.facts); return some(x), e }},
		{"Gap", "cd", func(a arguments) (bool, api.Errno) { x, e := rules.Gap(a.clauses, a.domains); return some(x), e }},
		{"Clash", "cd", func(a arguments) (bool, api.Errno) {
			x, e := rules.Clash(a.clauses, 5, 5, a.domains)
			return some(x), e
		}},
		{"Shadowed", "cd", func(a arguments) (bool, api.Errno) { x, e := rules.Shadowed(a.clauses, a.domains); return some(x), e }},
		{"Differ", "ed", func(a arguments) (bool, api.Errno) {
			x, e := rules.Differ(a.expr, num(0), a.domains)
			return some(x), e
		}},
		{"Differ", "ed", func(a arguments) (bool, api.Errno) {
			x, e := rules.Differ(num(0), a.expr, a.domains)
			return some(x), e
		}},
		{"Range", "ed", func(a arguments) (bool, api.Errno) { x, e := rules.Range(a.expr, a.domains); return some(x), e }},
		{"Simplify", "e", func(a arguments) (bool, api.Errno) { x, e := rules.Simplify(a.expr); return some(x), e }},
	}
}

// badFacts and badDomains are lists that are none.
func badFacts() [][]int {
	return [][]int{nil, zeros()[:13], append(zeros(), 0), zeros(-1), zeros(0, api.MaxValue+1), zeros(most), zeros(0, least), append(zeros()[:13], -1)}
}

func badDomains() [][]api.Span {
	return [][]api.Span{
		nil, spans()[:13], append(spans(), api.Span{}),
		spans(api.Span{Lo: -1, Hi: 0}), spans(api.Span{Lo: 1, Hi: 0}), spans(api.Span{Lo: api.MaxValue, Hi: api.MaxValue + 1}),
		append(spans()[:13], api.Span{Lo: -1, Hi: 0}), append(spans()[:13], api.Span{Lo: 3, Hi: 2}),
		spans(api.Span{Lo: least, Hi: most}), spans(api.Span{Lo: 0, Hi: most}), spans(api.Span{Lo: least, Hi: 0}), spans(api.Span{Lo: most, Hi: most}),
		spans(api.Span{Lo: 0, Hi: 4096}), spans(api.Span{Lo: 0, Hi: 63}, api.Span{Lo: 0, Hi: 64}), spans(api.Span{Lo: 0, Hi: api.MaxValue}),
		slices.Repeat([]api.Span{{Lo: 0, Hi: api.MaxValue}}, 14), slices.Repeat([]api.Span{{Lo: 0, Hi: 1}}, 14),
		// More than MaxJoint facts before a span that is none.
		append(slices.Repeat([]api.Span{{Lo: 0, Hi: api.MaxValue}}, 13), api.Span{Lo: 5, Hi: 4}),
	}
}

// The errors of the section Errors, in their order: each wrong argument by itself, and with all that are named after it.
func TestErrors(t *testing.T) {
	var badBooks []api.Book
	var badClauses [][]api.Clause
	for _, x := range badExprs() {
		badBooks = append(badBooks, api.Book{Points: []api.Clause{{When: yes(), Then: x}}}, api.Book{Repeats: []api.Expr{x}})
		badClauses = append(badClauses, append(many(1), api.Clause{When: x, Then: num(1)}), append(many(1), api.Clause{When: yes(), Then: x}))
	}
	badBooks = append(badBooks, api.Book{Penalties: many(65)}, api.Book{Multipliers: many(65)}, api.Book{Points: []api.Clause{{When: num(1), Then: num(1)}}})
	badClauses = append(badClauses, many(65), []api.Clause{{When: num(1), Then: num(1)}}, []api.Clause{{When: yes(), Then: no()}})
	spoil := map[rune]func(a *arguments, i int) (bool, api.Errno){
		'b': func(a *arguments, i int) (bool, api.Errno) {
			a.book = badBooks[i%len(badBooks)]
			return i < len(badBooks), api.ErrBook
		},
		'e': func(a *arguments, i int) (bool, api.Errno) {
			a.expr = badExprs()[i%len(badExprs())]
			return i < len(badExprs()), api.ErrType
		},
		'c': func(a *arguments, i int) (bool, api.Errno) {
			a.clauses = badClauses[i%len(badClauses)]
			return i < len(badClauses), api.ErrType
		},
		'f': func(a *arguments, i int) (bool, api.Errno) {
			a.facts = badFacts()[i%len(badFacts())]
			return i < len(badFacts()), api.ErrFacts
		},
		'd': func(a *arguments, i int) (bool, api.Errno) {
			a.domains = badDomains()[i%len(badDomains())]
			return i < len(badDomains()), api.ErrDomain
		},
	}
	for _, c := range calls() {
		for k, kind := range c.has {
			for i := 0; ; i++ {
				a := fine()
				more, want := spoil[kind](&a, i)
				if !more {
					break
				}
				if is, e := c.f(a); e != want || is {
					t.Error(c.name, string(kind), i, e)
				}
				for _, later := range c.has[k+1:] {
					spoil[later](&a, i)
				}
				if is, e := c.f(a); e != want || is {
					t.Error(c.name, string(kind), i, e, "with what comes later")
				}
			}
		}
	}
}

// P0.1: no function panics, whatever it is given, and no result shares memory with an argument.
func TestUnchanged(t *testing.T) {
	r := rand.New(rand.NewPCG(6, 7))
	for range 300 {
		a := arguments{anyBook(r, 2, 3), anyExpr(r, "n", 4), anyClauses(r, 3, 3), zeros(r.IntN(3), r.IntN(3)), spans(api.Span{Lo: 0, Hi: 2}, api.Span{Lo: 1, Hi: 2})}
		book, _ := rules.Print(a.book)
		expr, clauses, facts, domains := copied(a.expr), slices.Clone(a.clauses), slices.Clone(a.facts), slices.Clone(a.domains)
		for _, c := range calls() {
			c.f(a)
		}
		x, _ := rules.Simplify(a.expr)
		scribble(x)
		if l, e := rules.Gap(a.clauses, a.domains); e == api.OK {
			l[0] = -5
		}
		if again, _ := rules.Print(a.book); again != book || !equal(a.expr, expr) || !equalClauses(a.clauses, clauses) || !slices.Equal(a.facts, facts) || !slices.Equal(a.domains, domains) {
			t.Fatal("an argument was changed")
		}
	}
}

// scribble writes over all nodes below one.
func scribble(e api.Expr) {
	for i := range e.Kids {
		scribble(e.Kids[i])
		e.Kids[i] = api.Expr{Op: 77}
	}
}

// R7 of the document: no two nodes of a result share memory.
func TestNotShared(t *testing.T) {
	shared := node(api.OpAdd, fld(0), num(1))
	e, errno := rules.Simplify(node(api.OpMul, shared, node(api.OpAdd, shared, fld(1))))
	if errno != api.OK {
		t.Fatal(errno)
	}
	scribble(e.Kids[0])
	if !equal(e.Kids[1], node(api.OpAdd, node(api.OpAdd, fld(0), num(1)), fld(1))) {
		t.Error(e)
	}
}
