package rules_test

import (
	"math/big"
	"math/rand/v2"
	"slices"
	"testing"

	"pileup/api"
	"pileup/rules"
)

// valueBy is the value of an expression by the words of the chapter, with numbers without bounds until they are held.
func valueBy(e api.Expr, facts []int) int {
	var kids []int
	for _, kid := range e.Kids {
		kids = append(kids, valueBy(kid, facts))
	}
	if e.Op == api.OpNumber {
		return e.Value
	}
	if e.Op == api.OpField {
		return facts[e.Value]
	}
	if e.Op == api.OpIf {
		return map[int]int{1: kids[1], 0: kids[2]}[kids[0]]
	}
	is := map[int]func() bool{
		api.OpNot:   func() bool { return kids[0] == 0 },
		api.OpAnd:   func() bool { return kids[0] == 1 && kids[1] == 1 },
		api.OpOr:    func() bool { return kids[0] == 1 || kids[1] == 1 },
		api.OpEqual: func() bool { return kids[0] == kids[1] },
		api.OpLess:  func() bool { return kids[0] < kids[1] },
	}[e.Op]
	if is != nil {
		if is() {
			return 1
		}
		return 0
	}
	a, b, n := big.NewInt(int64(kids[0])), big.NewInt(int64(kids[1])), new(big.Int)
	switch e.Op {
	case api.OpAdd:
		n.Add(a, b)
	case api.OpSub:
		n.Sub(a, b)
	case api.OpMul:
		n.Mul(a, b)
	}
	switch {
	case n.Cmp(big.NewInt(1000000)) > 0:
		return 1000000
	case n.Cmp(big.NewInt(-1000000)) < 0:
		return -1000000
	}
	return int(n.Int64())
}

// anyFacts returns random facts, those of the first fields small, and now and then great.
func anyFacts(r *rand.Rand) []int {
	l := make([]int, api.MaxFields)
	for i := range l {
		l[i] = r.IntN(4)
		if r.IntN(8) == 0 {
			l[i] = api.MaxValue - r.IntN(3)
		}
	}
	return l
}

func TestEval(t *testing.T) {
	for s, want := range map[string]int{
		"if(band < 2, 10, 20)": 10, "if(band < 1, 10, 20)": 20,
		"0 - 1000000 - 5": -1000000, "1000000 + 1": 1000000, "999999 + 1": 1000000, "0 - 1000000": -1000000,
		"1000 * 1000": 1000000, "1000 * 1001": 1000000, "1000000 * 1000000": 1000000, "1000000 * 0": 0,
		"(0 - 1000000) * 1000000": -1000000, "(0 - 1000) * 1001": -1000000, "(0 - 1000000) * (0 - 1000000)": 1000000,
		// Held at each step, not at the end.
		"1000000 + 1 - 1": 999999, "1000000 * 2 - 1000000": 0, "0 - 1000000 - 5 + 5": -999995, "1000 * 1001 - 1": 999999,
		"status": 7, "band": 1, "3 - 5": -2, "(3 - 5) * 4": -8, "0 - band * 2": -2,
		"1 = 1": 1, "1 = 2": 0, "1 < 2": 1, "2 < 1": 0, "1 < 1": 0, "0 - 1 < 0": 1,
		"not 1 = 1": 0, "not 1 = 2": 1, "not not 1 = 1": 1,
		"1 = 1 and 2 = 2": 1, "1 = 1 and 1 = 2": 0, "1 = 2 and 1 = 1": 0, "1 = 2 and 1 = 2": 0,
		"1 = 1 or 2 = 2": 1, "1 = 1 or 1 = 2": 1, "1 = 2 or 1 = 1": 1, "1 = 2 or 1 = 2": 0,
	} {
		facts := zeros(1)
		facts[13] = 7
		if n, e := rules.Eval(mustParse(t, s), facts); n != want || e != api.OK {
			t.Error(s, n, e)
		}
	}
	for i := range api.MaxFields {
		facts := make([]int, api.MaxFields)
		facts[i] = api.MaxValue
		if n, e := rules.Eval(fld(i), facts); n != api.MaxValue || e != api.OK {
			t.Error(i, n, e)
		}
	}
}

// R10, P6.3, P6.4: values by the words of the chapter; they are within their bounds, and depend on no other facts than those of Fields.
func TestEvalAny(t *testing.T) {
	r := rand.New(rand.NewPCG(6, 10))
	for range 20000 {
		letter := []string{"n", "t"}[r.IntN(2)]
		e, facts := anyExpr(r, letter, 2+r.IntN(6)), anyFacts(r)
		n, errno := rules.Eval(e, facts)
		if n != valueBy(e, facts) || errno != api.OK {
			t.Fatal(e, facts, n, errno)
		}
		if letter == "t" && n != 0 && n != 1 || n < -api.MaxValue || n > api.MaxValue {
			t.Fatal(e, facts, n)
		}
		other := anyFacts(r)
		for _, k := range rules.Fields(e) {
			other[k] = facts[k]
		}
		if m, _ := rules.Eval(e, other); m != n {
			t.Fatal(e, facts, other, n, m)
		}
	}
}

func TestFirst(t *testing.T) {
	l := []api.Clause{
		{When: mustParse(t, "band = 2"), Then: num(10)},
		{When: mustParse(t, "band < 3"), Then: num(20)},
		{When: mustParse(t, "band = 1"), Then: num(30)},
		{When: mustParse(t, "band = 5"), Then: num(40)},
	}
	for band, want := range []int{1, 1, 0, -1, -1, 3} {
		n, e := rules.First(l, zeros(band))
		if want >= 0 && (n != want || e != api.OK) || want < 0 && (n != 0 || e != api.ErrNone) {
			t.Error(band, n, e)
		}
	}
	if n, e := rules.First(nil, zeros()); n != 0 || e != api.ErrNone {
		t.Error(n, e)
	}
	if n, e := rules.First(many(64), zeros(63)); n != 63 || e != api.OK {
		t.Error(n, e)
	}
}

func TestBookValues(t *testing.T) {
	b, e, at := rules.Parse(`points: band = 1 => 2
points: band < 3 => zone + 1
multiplier: band < 2 => country
penalty: band = 2 => 3 * zone
multiplier: band = 3 => 7
penalty: band < 4 => 0 - 5
multiplier: band < 4 => country
repeat: band
repeat: call * 2
repeat: band
`)
	if e != api.OK {
		t.Fatal(e, at)
	}
	for _, x := range []struct {
		band, points, penalty int
		e                     api.Errno
		keys                  []api.Key
	}{
		{0, 10, -5, api.OK, []api.Key{{Clause: 0, Value: 6}, {Clause: 2, Value: 6}}},
		{1, 2, -5, api.OK, []api.Key{{Clause: 0, Value: 6}, {Clause: 2, Value: 6}}},
		{2, 10, 27, api.OK, []api.Key{{Clause: 2, Value: 6}}},
		{3, 0, -5, api.ErrGap, []api.Key{{Clause: 1, Value: 7}, {Clause: 2, Value: 6}}},
		{4, 0, 0, api.ErrGap, nil},
	} {
		facts := zeros(x.band)
		facts[api.FieldZone], facts[api.FieldCountry], facts[api.FieldCall] = 9, 6, 4
		if n, e := rules.Points(b, facts); n != x.points || e != x.e {
			t.Error(x.band, n, e)
		}
		if n, e := rules.Penalty(b, facts); n != x.penalty || e != api.OK {
			t.Error(x.band, n, e)
		}
		if l, e := rules.Keys(b, facts); !slices.Equal(l, x.keys) || e != api.OK {
			t.Error(x.band, l, e)
		}
		if l, e := rules.Repeat(b, facts); !slices.Equal(l, []int{x.band, 8, x.band}) || e != api.OK {
			t.Error(x.band, l, e)
		}
	}
	// A book without clauses.
	if n, e := rules.Points(api.Book{}, zeros()); n != 0 || e != api.ErrGap {
		t.Error(n, e)
	}
	if n, e := rules.Penalty(api.Book{}, zeros()); n != 0 || e != api.OK {
		t.Error(n, e)
	}
	if l, e := rules.Keys(api.Book{}, zeros()); len(l) != 0 || e != api.OK {
		t.Error(l, e)
	}
	if l, e := rules.Repeat(api.Book{}, zeros()); len(l) != 0 || e != api.OK {
		t.Error(l, e)
	}
}

// firstBy is the index of the first clause that is true, or -1.
func firstBy(l []api.Clause, facts []int) int {
	return slices.IndexFunc(l, func(c api.Clause) bool { return valueBy(c.When, facts) == 1 })
}

// R11 to R15, P6.5: random books and facts, by the words of the chapter.
func TestBookValuesAny(t *testing.T) {
	r := rand.New(rand.NewPCG(6, 11))
	for range 3000 {
		b, facts := anyBook(r, 5, 2+r.IntN(3)), anyFacts(r)
		i, e := rules.First(b.Points, facts)
		if want := firstBy(b.Points, facts); want < 0 && (i != 0 || e != api.ErrNone) || want >= 0 && (i != want || e != api.OK) {
			t.Fatal(b.Points, facts, i, e)
		}
		n, f := rules.Points(b, facts)
		switch {
		case e != api.OK && (n != 0 || f != api.ErrGap), e == api.OK && (n != valueBy(b.Points[i].Then, facts) || f != api.OK):
			t.Fatal(b.Points, facts, n, f)
		}
		want := 0
		if k := firstBy(b.Penalties, facts); k >= 0 {
			want = valueBy(b.Penalties[k].Then, facts)
		}
		if n, e := rules.Penalty(b, facts); n != want || e != api.OK {
			t.Fatal(b.Penalties, facts, n, e)
		}
		var keys []api.Key
		for k, c := range b.Multipliers {
			if valueBy(c.When, facts) == 1 {
				keys = append(keys, api.Key{Clause: k, Value: valueBy(c.Then, facts)})
			}
		}
		if l, e := rules.Keys(b, facts); !slices.Equal(l, keys) || e != api.OK {
			t.Fatal(b.Multipliers, facts, l, e)
		}
		var numbers []int
		for _, x := range b.Repeats {
			numbers = append(numbers, valueBy(x, facts))
		}
		if l, e := rules.Repeat(b, facts); !slices.Equal(l, numbers) || e != api.OK {
			t.Fatal(b.Repeats, facts, l, e)
		}
	}
}
