package rules_test

import (
	"maps"
	"math/rand/v2"
	"slices"
	"strconv"
	"strings"
	"testing"

	"pileup/api"
	"pileup/rules"
)

// grammar is the grammar of the chapter: what each name on the left may be. A name that is not on the left is a token; "$" is the end.
func grammar() map[string][][]string {
	g := map[string][][]string{}
	for _, line := range strings.Split(`book = feeds parts $
feeds =
feeds = feeds LF
parts =
parts = part
parts = part LF feeds parts
part = points : expr => expr
part = multiplier : expr => expr
part = penalty : expr => expr
part = repeat : expr
only = expr $
expr = both
expr = expr or both
both = deny
both = both and deny
deny = not deny
deny = test
test = sum
test = sum = sum
test = sum < sum
sum = term
sum = sum + term
sum = sum - term
term = item
term = term * item
item = NUMBER
item = FIELD
item = ( expr )
item = if ( expr , expr , expr )`, "\n") {
		l := strings.Fields(line)
		g[l[0]] = append(g[l[0]], l[2:])
	}
	return g
}

// A state is a rule of the grammar of which so many items are read, from a token on.
type state struct{ name, rule, dot, from int }

// reader reads tokens by a grammar, all ways at the same time (Earley's method).
type reader struct {
	names []string
	rules map[string][][]string
	sets  []map[state]bool
}

// closed adds what a set of states leads to without a token.
func (x *reader) closed(n int) {
	for grown := true; grown; {
		before := len(x.sets[n])
		for _, s := range slices.Collect(maps.Keys(x.sets[n])) {
			rule := x.rules[x.names[s.name]][s.rule]
			if s.dot < len(rule) {
				if name := slices.Index(x.names, rule[s.dot]); name >= 0 {
					for i := range x.rules[rule[s.dot]] {
						x.add(n, state{name, i, 0, n})
					}
				}
				continue
			}
			for _, t := range slices.Collect(maps.Keys(x.sets[s.from])) {
				rule := x.rules[x.names[t.name]][t.rule]
				if t.dot < len(rule) && rule[t.dot] == x.names[s.name] {
					x.add(n, state{t.name, t.rule, t.dot + 1, t.from})
				}
			}
		}
		grown = len(x.sets[n]) > before
	}
}

// add adds a state to a set.
func (x *reader) add(n int, s state) { x.sets[n][s] = true }

// wrongToken returns the index of the first token that a grammar does not allow, from a name on, or -1.
func wrongToken(g map[string][][]string, start string, tokens []string) int {
	x := &reader{rules: g, sets: []map[state]bool{{}}}
	for name := range g {
		x.names = append(x.names, name)
	}
	for i := range g[start] {
		x.add(0, state{slices.Index(x.names, start), i, 0, 0})
	}
	for n, token := range tokens {
		x.closed(n)
		x.sets = append(x.sets, map[state]bool{})
		for s := range x.sets[n] {
			rule := g[x.names[s.name]][s.rule]
			if s.dot < len(rule) && rule[s.dot] == token && g[token] == nil {
				x.add(n+1, state{s.name, s.rule, s.dot + 1, s.from})
			}
		}
		if len(x.sets[n+1]) == 0 {
			return n
		}
	}
	return -1
}

// classes returns the tokens of a text as the grammar names them, with the end, and where they begin.
func classes(s string) ([]string, []int) {
	texts, at := tokensBy(s)
	for i, text := range texts {
		n, err := strconv.Atoi(text)
		switch {
		case text == "\n":
			texts[i] = "LF"
		case slices.Contains(fieldNames, text):
			texts[i] = "FIELD"
		case err == nil && len(text) <= 7 && n <= api.MaxValue:
			texts[i] = "NUMBER"
		case text == "$" || strings.Contains("LF FIELD NUMBER", text):
			texts[i] = "?"
		case !slices.Contains(strings.Fields("points multiplier penalty repeat : => or and not = < + - * ( ) , if"), text):
			texts[i] = "?"
		}
	}
	return append(texts, "$"), append(at, len(s))
}

// vocabulary are pieces of texts, those of expressions more often.
var vocabulary = strings.Fields("points multiplier penalty repeat : => => or and not not = < + - * ( ( ) ) , , if if( 0 1 2 1000000 1000001 band zone call band mode x nots ? > $ LF")

// anyText returns a random text of at most n pieces, which may begin as a book does.
func anyText(r *rand.Rand, n int) string {
	var b strings.Builder
	for range r.IntN(n + 1) {
		piece := vocabulary[r.IntN(len(vocabulary))]
		if piece == "LF" {
			piece = "\n"
		}
		b.WriteString(piece + []string{"", " ", " ", "\t"}[r.IntN(4)])
	}
	return b.String()
}

// mutated returns a text with a token dropped, doubled, replaced or put in.
func mutated(r *rand.Rand, s string) string {
	_, at := tokensBy(s)
	at = append(at, len(s))
	i := r.IntN(len(at))
	from, to := at[i], at[min(i+1, len(at)-1)]
	switch r.IntN(5) {
	case 0:
		return s[:from] + s[to:]
	case 1:
		return s[:to] + s[from:]
	case 2:
		return s[:from]
	case 3:
		return s[:from] + anyText(r, 2) + s[to:]
	default:
		return s[:from] + anyText(r, 2) + s[from:]
	}
}

// R6, R8: the first token that the grammar does not allow, for texts that are nearly books or expressions.
func TestGrammar(t *testing.T) {
	r := rand.New(rand.NewPCG(6, 6))
	g := grammar()
	wrongs := 0
	for range 2500 {
		whole := r.IntN(2) == 0
		var s string
		if whole {
			s, _ = rules.Print(anyBook(r, 1, 2+r.IntN(2)))
		} else {
			s = written(anyExpr(r, []string{"n", "t"}[r.IntN(2)], 2+r.IntN(2)), func(op, i int, kid api.Expr) bool { return needed(op, i, kid) || r.IntN(4) == 0 })
		}
		for range r.IntN(3) {
			s = mutated(r, s)
		}
		if r.IntN(4) == 0 {
			s = anyText(r, 9)
		}
		start := "only"
		if whole {
			start = "book"
		}
		tokens, at := classes(s)
		n := wrongToken(g, start, tokens)
		_, e, got := rules.ParseExpr(s)
		if whole {
			_, e, got = rules.Parse(s)
		}
		switch {
		case n < 0 && e == api.ErrSyntax, e == api.ErrSyntax && got != at[n], e == api.ErrLimit:
			t.Fatalf("%q: %d %d, %d", s, e, got, n)
		case n >= 0 && e != api.ErrSyntax && !(e == api.ErrType && whole && got < at[n]):
			t.Fatalf("%q: %d %d, not at %d", s, e, got, at[n])
		}
		if e == api.ErrSyntax {
			wrongs++
		}
	}
	if wrongs < 800 {
		t.Error(wrongs)
	}
}

// All texts of a few tokens.
func TestGrammarSmall(t *testing.T) {
	g := grammar()
	pieces := []string{"1", "band", "(", ")", "not", "or", "+", "=", "if", ","}
	texts := []string{""}
	for i := 0; i < len(texts); i++ {
		s := texts[i]
		tokens, at := classes(s)
		n := wrongToken(g, "only", tokens)
		_, e, got := rules.ParseExpr(s)
		if (n >= 0) != (e == api.ErrSyntax) || n >= 0 && got != at[n] {
			t.Fatalf("%q: %d %d, %d", s, e, got, n)
		}
		// What is wrong before the end stays so, whatever follows.
		if len(tokens) > 4 || n >= 0 && n < len(tokens)-1 {
			continue
		}
		for _, piece := range pieces {
			texts = append(texts, s+piece+" ")
		}
	}
}

// P6.3: what is read is sound, whatever the text was; and what is wrong is told with a place in it.
func TestParsedIsSound(t *testing.T) {
	r := rand.New(rand.NewPCG(6, 63))
	for range 20000 {
		s := anyText(r, 12)
		if r.IntN(2) == 0 {
			s = []string{"points: ", "repeat: ", "penalty: 0 = 0 => "}[r.IntN(3)] + s
		}
		b, e, at := rules.Parse(s)
		if e == api.OK && (!rules.Valid(b) || at != 0) || e != api.OK && (!equalBooks(b, api.Book{}) || at < 0 || at > len(s)) {
			t.Fatalf("%q %d %d", s, e, at)
		}
		x, e, at := rules.ParseExpr(s)
		if e == api.OK && (typeBy(x) == "" || levelsOf(x) > 32 || at != 0) || e != api.OK && (!equal(x, api.Expr{}) || at < 0 || at > len(s)) {
			t.Fatalf("%q %d %d", s, e, at)
		}
	}
}
