package rules

import (
	"slices"
	"strconv"

	"pileup/api"
)

// maxDigits is how many digits a number in a text has at most.
const maxDigits = 7

// A fault is what is wrong with a text, and where.
type fault struct {
	errno api.Errno
	at    int
}

// A parser reads the tokens of a text from the beginning. It panics with the first fault, so that it leaves everything at once in which it is.
type parser struct {
	rest []token // those that are not yet read
	open int     // the number of parentheses that are not yet closed
}

// read reads a text by a function, and returns the first thing that is wrong with the text.
func read(s string, by func(p *parser)) (e api.Errno, at int) {
	if len(s) > api.MaxText {
		return api.ErrLimit, 0
	}
	defer func() {
		if f, ok := recover().(fault); ok {
			e, at = f.errno, f.at
		}
	}()
	by(&parser{rest: slices.Collect(tokensOf(s))})
	return api.OK, 0
}

// Parse returns the book of a text, or what is wrong with the text first, and where.
func Parse(s string) (api.Book, api.Errno, int) {
	var b api.Book
	e, at := read(s, func(p *parser) { p.book(&b) })
	if e != api.OK {
		return api.Book{}, e, at
	}
	return b, api.OK, 0
}

// ParseExpr returns the expression of a text, or what is wrong with the text first, and where.
func ParseExpr(s string) (api.Expr, api.Errno, int) {
	var x piece
	e, at := read(s, func(p *parser) {
		x = p.piece()
		p.mustBe(end)
		x.mustHave(api.TypeNumber, api.TypeTruth)
	})
	if e != api.OK {
		return api.Expr{}, e, at
	}
	return x.expr, api.OK, 0
}

// next returns the text of the next token.
func (p *parser) next() string { return p.rest[0].text }

// at returns where the next token begins.
func (p *parser) at() int { return p.rest[0].at }

// skip reads the next token.
func (p *parser) skip() { p.rest = p.rest[1:] }

// wrong returns the fault that the next token is.
func (p *parser) wrong(e api.Errno) fault { return fault{e, p.at()} }

// mustBe asks the next token to be one of some texts.
func (p *parser) mustBe(texts ...string) {
	if !slices.Contains(texts, p.next()) {
		panic(p.wrong(api.ErrSyntax))
	}
}

// take reads a token that must come next.
func (p *parser) take(text string) {
	p.mustBe(text)
	p.skip()
}

// book reads a book to the end.
func (p *parser) book(b *api.Book) {
	p.lineFeeds()
	for p.next() != end {
		p.part(b)
		p.lineFeeds()
	}
}

// lineFeeds reads all line feeds that come next.
func (p *parser) lineFeeds() {
	for p.next() == lineFeed {
		p.skip()
	}
}

// part reads a part into a book.
func (p *parser) part(b *api.Book) {
	switch p.next() {
	case points:
		p.clause(&b.Points)
	case multiplier:
		p.clause(&b.Multipliers)
	case penalty:
		p.clause(&b.Penalties)
	case repeat:
		p.repeat(&b.Repeats)
	default:
		panic(p.wrong(api.ErrSyntax))
	}
}

// clause reads a part that is a clause.
func (p *parser) clause(l *[]api.Clause) {
	at := p.at()
	p.skip()
	p.take(colon)
	when := p.piece()
	p.take(arrow)
	then := p.piece()
	p.finish(at, len(*l))
	when.mustHave(api.TypeTruth)
	then.mustHave(api.TypeNumber)
	*l = append(*l, api.Clause{When: when.expr, Then: then.expr})
}

// repeat reads a part that is an expression by which contacts repeat others.
func (p *parser) repeat(l *[]api.Expr) {
	at := p.at()
	p.skip()
	p.take(colon)
	x := p.piece()
	p.finish(at, len(*l))
	x.mustHave(api.TypeNumber)
	*l = append(*l, x.expr)
}

// finish asks for what may follow a part, and that there are not too many parts of the kind with this one; at is where it begins, and count the number of those before it.
func (p *parser) finish(at, count int) {
	p.mustBe(lineFeed, end)
	if count == api.MaxClauses {
		panic(fault{api.ErrLimit, at})
	}
}

// A piece is an expression with the place where its text begins.
type piece struct {
	expr api.Expr
	at   int
}

// piece reads an expression.
func (p *parser) piece() piece {
	at := p.at()
	e := p.expr()
	return piece{e, at}
}

// mustHave asks an expression to have at most MaxDepth levels, and one of some types.
func (x piece) mustHave(types ...int) {
	if !fits(x.expr, api.MaxDepth) {
		panic(fault{api.ErrLimit, x.at})
	}
	if !slices.Contains(types, typeOf(x.expr)) {
		panic(fault{api.ErrType, x.at})
	}
}

// The following functions read what the grammar has under their names.

func (p *parser) expr() api.Expr { return p.chain(p.both, or) }
func (p *parser) both() api.Expr { return p.chain(p.deny, and) }

func (p *parser) deny() api.Expr {
	if p.operator(not) == none {
		return p.test()
	}
	return api.Expr{Op: not, Kids: []api.Expr{p.deny()}}
}

func (p *parser) test() api.Expr {
	e := p.sum()
	op := p.operator(equal, less)
	if op == none {
		return e
	}
	second := p.sum()
	return api.Expr{Op: op, Kids: []api.Expr{e, second}}
}

func (p *parser) sum() api.Expr  { return p.chain(p.term, add, sub) }
func (p *parser) term() api.Expr { return p.chain(p.item, mul) }

func (p *parser) item() api.Expr {
	switch p.next() {
	case opening:
		p.enter()
		e := p.expr()
		p.leave()
		return e
	case signs[choice].text:
		return p.choice()
	default:
		return p.leaf()
	}
}

// choice reads an `if`.
func (p *parser) choice() api.Expr {
	p.skip()
	p.enter()
	condition := p.expr()
	p.take(comma)
	yes := p.expr()
	p.take(comma)
	no := p.expr()
	p.leave()
	return api.Expr{Op: choice, Kids: []api.Expr{condition, yes, no}}
}

// leaf reads a number or a field.
func (p *parser) leaf() api.Expr {
	if n := numberOf(p.next()); n != none {
		p.skip()
		return api.Expr{Op: number, Value: n}
	}
	if n := fieldOf(p.next()); n != none {
		p.skip()
		return api.Expr{Op: field, Value: n}
	}
	panic(p.wrong(api.ErrSyntax))
}

// chain reads what a function reads, with some operators between, which group to the left.
func (p *parser) chain(operand func() api.Expr, ops ...int) api.Expr {
	e := operand()
	for {
		op := p.operator(ops...)
		if op == none {
			return e
		}
		next := operand()
		e = api.Expr{Op: op, Kids: []api.Expr{e, next}}
	}
}

// operator reads one of some operators, or returns none if none of them comes next.
func (p *parser) operator(ops ...int) int {
	for _, op := range ops {
		if p.next() == signs[op].text {
			p.skip()
			return op
		}
	}
	return none
}

// enter reads an opening parenthesis.
func (p *parser) enter() {
	p.mustBe(opening)
	if p.open == api.MaxDepth {
		panic(p.wrong(api.ErrLimit))
	}
	p.open++
	p.skip()
}

// leave reads a closing parenthesis.
func (p *parser) leave() {
	p.take(closing)
	p.open--
}

// numberOf returns the number that a token is, or none.
func numberOf(text string) int {
	if text == end || !isDigit(text[0]) || len(text) > maxDigits {
		return none
	}
	n, err := strconv.Atoi(text)
	if err != nil || n > api.MaxValue {
		return none
	}
	return n
}

// fieldOf returns the field that a token names, or none.
func fieldOf(text string) int {
	for n, name := range names {
		if name == text {
			return n
		}
	}
	return none
}
