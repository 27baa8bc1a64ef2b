package rules_test

import (
	"math/rand/v2"
	"slices"
	"testing"

	"pileup/api"
	"pileup/rules"
)

// bands are the domains of the chapter's examples.
func bands() []api.Span { return spans(api.Span{Lo: 1, Hi: 3}) }

// clause is a clause with a When that is read.
func clause(t *testing.T, when string) api.Clause {
	t.Helper()
	return api.Clause{When: mustParse(t, when), Then: num(1)}
}

// factsBy returns all facts of domains, by the remainders of a number.
func factsBy(d []api.Span) [][]int {
	count := 1
	for _, s := range d {
		count *= s.Hi - s.Lo + 1
	}
	var all [][]int
	for n := range count {
		facts := make([]int, len(d))
		for i := len(d) - 1; i >= 0; i-- {
			size := d[i].Hi - d[i].Lo + 1
			facts[i] = d[i].Lo + n%size
			n /= size
		}
		all = append(all, facts)
	}
	return all
}

// anyDomains returns random domains of a few facts.
func anyDomains(r *rand.Rand) []api.Span {
	d := make([]api.Span, api.MaxFields)
	for i := range d {
		lo := r.IntN(3)
		if r.IntN(9) == 0 {
			lo = api.MaxValue - 2
		}
		d[i] = api.Span{Lo: lo, Hi: lo}
		if i < 3 || i == 13 {
			d[i].Hi += r.IntN(3)
		}
	}
	return d
}

// firstFacts returns the first facts of domains of which something is true, and ErrNone if there are none.
func firstFacts(d []api.Span, is func(facts []int) bool) ([]int, api.Errno) {
	all := factsBy(d)
	i := slices.IndexFunc(all, is)
	if i < 0 {
		return nil, api.ErrNone
	}
	return all[i], api.OK
}

func TestGap(t *testing.T) {
	full := spans(api.Span{Lo: 0, Hi: 63})
	full[13] = api.Span{Lo: api.MaxValue - 63, Hi: api.MaxValue}
	last := zeros(63)
	last[13] = api.MaxValue
	for i, x := range []struct {
		l    []api.Clause
		d    []api.Span
		want []int
		e    api.Errno
	}{
		{[]api.Clause{clause(t, "band = 1"), clause(t, "band = 2")}, bands(), zeros(3), api.OK},
		{[]api.Clause{clause(t, "band = 1"), clause(t, "band = 2"), clause(t, "2 < band")}, bands(), nil, api.ErrNone},
		// No clauses at all: the first facts.
		{nil, bands(), zeros(1), api.OK},
		{nil, spans(), zeros(), api.OK},
		{[]api.Clause{clause(t, "0 = 0")}, full, nil, api.ErrNone},
		// The last facts alone, of as many as there can be.
		{[]api.Clause{clause(t, "band < 63 or status < 1000000")}, full, last, api.OK},
		{[]api.Clause{clause(t, "band < 60")}, full, append(zeros(60)[:13], api.MaxValue-63), api.OK},
	} {
		if got, e := rules.Gap(x.l, x.d); !slices.Equal(got, x.want) || e != x.e {
			t.Error(i, got, e)
		}
	}
}

func TestClash(t *testing.T) {
	l := []api.Clause{clause(t, "band < 3"), clause(t, "band < 2"), clause(t, "band = 3"), clause(t, "0 < band")}
	for i, x := range []struct {
		i, k int
		want []int
		e    api.Errno
	}{
		{0, 1, zeros(1), api.OK}, {1, 0, zeros(1), api.OK}, {0, 2, nil, api.ErrNone}, {2, 1, nil, api.ErrNone}, {2, 3, zeros(3), api.OK},
		{0, 0, nil, api.ErrArg}, {3, 3, nil, api.ErrArg}, {0, 4, nil, api.ErrArg}, {4, 0, nil, api.ErrArg}, {-1, 0, nil, api.ErrArg}, {0, -1, nil, api.ErrArg}, {most, 0, nil, api.ErrArg}, {0, least, nil, api.ErrArg},
	} {
		if got, e := rules.Clash(l, x.i, x.k, bands()); !slices.Equal(got, x.want) || e != x.e {
			t.Error(i, got, e)
		}
	}
	for _, l := range [][]api.Clause{nil, l[:1]} {
		if got, e := rules.Clash(l, 0, 0, bands()); len(got) != 0 || e != api.ErrArg {
			t.Error(got, e)
		}
		if got, e := rules.Clash(l, 0, 1, bands()); len(got) != 0 || e != api.ErrArg {
			t.Error(got, e)
		}
	}
}

func TestShadowed(t *testing.T) {
	for i, x := range []struct {
		whens []string
		want  []int
	}{
		{nil, nil},
		{[]string{"band < 3", "band < 2"}, []int{1}},
		{[]string{"band < 2", "band < 3"}, nil},
		// Clauses that are true, but never first; and clauses that are never true.
		{[]string{"band = 9", "0 = 0", "0 = 0", "band = 3", "0 < 0"}, []int{0, 2, 3, 4}},
		{[]string{"band = 1", "band = 3", "band < 3", "0 < band"}, []int{3}},
	} {
		var l []api.Clause
		for _, s := range x.whens {
			l = append(l, clause(t, s))
		}
		if got, e := rules.Shadowed(l, bands()); !slices.Equal(got, x.want) || e != api.OK {
			t.Error(i, got, e)
		}
	}
}

func TestDifferAndRange(t *testing.T) {
	wide := spans(api.Span{Lo: 1, Hi: 3}, api.Span{Lo: 0, Hi: 2})
	wide[13] = api.Span{Lo: 4, Hi: 6}
	last := zeros(3, 2)
	last[13] = 6
	for i, x := range []struct {
		a, b string
		d    []api.Span
		want []int
		e    api.Errno
	}{
		{"band + band", "2 * band", bands(), nil, api.ErrNone},
		{"band * band", "band", bands(), zeros(2), api.OK},
		{"band = 1", "band < 2", bands(), nil, api.ErrNone},
		{"band = 1", "band < 3", bands(), zeros(2), api.OK},
		// R19: their types are different.
		{"band = 1", "1", bands(), nil, api.ErrType},
		{"1", "band = 1", bands(), nil, api.ErrType},
		// Expressions that differ at the last facts alone.
		{"if(band = 3 and mode = 2 and status = 6, 1, 0)", "0", wide, last, api.OK},
		{"band = 3 and mode = 2 and status = 6", "0 < 0", wide, last, api.OK},
		{"mode", "0", wide, append(zeros(1, 1)[:13], 4), api.OK},
	} {
		if got, e := rules.Differ(mustParse(t, x.a), mustParse(t, x.b), x.d); !slices.Equal(got, x.want) || e != x.e {
			t.Error(i, got, e)
		}
	}
	for s, want := range map[string]api.Span{
		"band * band - 1": {Lo: 0, Hi: 8}, "0 - band": {Lo: -3, Hi: -1}, "band = 2": {Lo: 0, Hi: 1}, "band = 7": {}, "0 < band": {Lo: 1, Hi: 1}, "5": {Lo: 5, Hi: 5},
		"(0 - 1000) * 1000 * band": {Lo: -1000000, Hi: -1000000}, "1000000 * (band - 2)": {Lo: -1000000, Hi: 1000000}, "if(band = 2, 9, band)": {Lo: 1, Hi: 9},
	} {
		if got, e := rules.Range(mustParse(t, s), bands()); got != want || e != api.OK {
			t.Error(s, got, e)
		}
	}
	// R19: expressions of two types are told ahead of domains that are none.
	if got, e := rules.Differ(yes(), num(1), nil); len(got) != 0 || e != api.ErrType {
		t.Error(got, e)
	}
}

// R16 to R20, P6.5, P6.6: random clauses, expressions and domains, against all facts of the domains.
func TestAnalysisAny(t *testing.T) {
	r := rand.New(rand.NewPCG(6, 16))
	for range 800 {
		l, d := anyClauses(r, 4, 2+r.IntN(3)), anyDomains(r)
		gap, e := rules.Gap(l, d)
		want, f := firstFacts(d, func(facts []int) bool { return firstBy(l, facts) < 0 })
		if !slices.Equal(gap, want) || e != f {
			t.Fatal(l, d, gap, e)
		}
		for i := range l {
			for k := range l {
				if i == k {
					continue
				}
				got, e := rules.Clash(l, i, k, d)
				want, f := firstFacts(d, func(facts []int) bool { return valueBy(l[i].When, facts) == 1 && valueBy(l[k].When, facts) == 1 })
				if !slices.Equal(got, want) || e != f {
					t.Fatal(l, d, i, k, got, e)
				}
			}
		}
		found := map[int]bool{}
		ungiven := false
		for _, facts := range factsBy(d) {
			found[firstBy(l, facts)] = true
			_, e := rules.Points(api.Book{Points: l}, facts)
			ungiven = ungiven || e == api.ErrGap
		}
		var never []int
		for i := range l {
			if !found[i] {
				never = append(never, i)
			}
		}
		if got, e := rules.Shadowed(l, d); !slices.Equal(got, never) || e != api.OK {
			t.Fatal(l, d, got, e)
		}
		// P6.5: Points tells ErrGap for some facts exactly if there is a gap.
		if ungiven != (e == api.OK) {
			t.Fatal(l, d, gap, e)
		}
	}
}

// P6.5: a clause that is shadowed may be left out.
func TestShadowedLeftOut(t *testing.T) {
	r := rand.New(rand.NewPCG(6, 5))
	for range 400 {
		l, d := anyClauses(r, 6, 3), anyDomains(r)
		shadowed, _ := rules.Shadowed(l, d)
		for _, out := range shadowed {
			rest := slices.Delete(slices.Clone(l), out, out+1)
			for _, facts := range factsBy(d) {
				i, e := rules.First(l, facts)
				k, f := rules.First(rest, facts)
				if e == api.OK && k >= out {
					k++
				}
				if i != k || e != f {
					t.Fatal(l, facts, out, i, k)
				}
			}
		}
	}
}

// R19, R20, P6.6: values of expressions over domains; those that do not differ have one range, and smaller domains have no gap where larger ones have none.
func TestDifferAny(t *testing.T) {
	r := rand.New(rand.NewPCG(6, 19))
	equalOnes := 0
	for range 1500 {
		letter := []string{"n", "t"}[r.IntN(2)]
		a, b, d := anyExpr(r, letter, 2+r.IntN(3)), anyExpr(r, letter, 2+r.IntN(2)), anyDomains(r)
		got, e := rules.Differ(a, b, d)
		want, f := firstFacts(d, func(facts []int) bool { return valueBy(a, facts) != valueBy(b, facts) })
		if !slices.Equal(got, want) || e != f {
			t.Fatal(a, b, d, got, e)
		}
		var values []int
		for _, facts := range factsBy(d) {
			values = append(values, valueBy(a, facts))
		}
		s, f := rules.Range(a, d)
		if s != (api.Span{Lo: slices.Min(values), Hi: slices.Max(values)}) || f != api.OK {
			t.Fatal(a, d, s, f)
		}
		if u, _ := rules.Range(b, d); e == api.ErrNone {
			equalOnes++
			if u != s {
				t.Fatal(a, b, s, u)
			}
		}
		smaller := slices.Clone(d)
		for i, s := range smaller {
			smaller[i].Lo += r.IntN(s.Hi - s.Lo + 1)
			smaller[i].Hi -= r.IntN(s.Hi - smaller[i].Lo + 1)
		}
		l := anyClauses(r, 4, 3)
		_, e = rules.Gap(l, d)
		if _, f := rules.Gap(l, smaller); e == api.ErrNone && f != api.ErrNone {
			t.Fatal(l, d, smaller)
		}
	}
	if equalOnes < 50 {
		t.Error(equalOnes)
	}
}

// Domains of MaxJoint facts, and the greatest numbers.
func TestMaxJoint(t *testing.T) {
	all := spans(api.Span{Lo: 0, Hi: 15}, api.Span{Lo: 3, Hi: 18})
	all[13] = api.Span{Lo: api.MaxValue - 15, Hi: api.MaxValue}
	if s, e := rules.Range(node(api.OpAdd, fld(0), fld(1)), all); s != (api.Span{Lo: 3, Hi: 33}) || e != api.OK {
		t.Error(s, e)
	}
	if s, e := rules.Range(fld(13), all); s != (api.Span{Lo: api.MaxValue - 15, Hi: api.MaxValue}) || e != api.OK {
		t.Error(s, e)
	}
	for _, d := range [][]api.Span{spans(api.Span{Lo: 0, Hi: 4095}), spans(api.Span{Lo: api.MaxValue - 4095, Hi: api.MaxValue})} {
		if s, e := rules.Range(fld(0), d); s != d[0] || e != api.OK {
			t.Error(s, e)
		}
		d[0].Lo--
		if s, e := rules.Range(fld(0), d); s != (api.Span{}) || e != api.ErrDomain {
			t.Error(s, e)
		}
	}
	twos := slices.Repeat([]api.Span{{Lo: 1, Hi: 2}}, 14)
	twos[0], twos[7] = api.Span{Lo: 5, Hi: 5}, api.Span{Lo: 6, Hi: 6}
	if got, e := rules.Gap([]api.Clause{clause(t, "mode = 1 or hour = 1 or status = 1 or power = 1")}, twos); e != api.OK || !slices.Equal(got, []int{5, 2, 2, 1, 1, 1, 1, 6, 1, 1, 1, 1, 2, 2}) {
		t.Error(got, e)
	}
	twos[7].Lo = 5
	if _, e := rules.Gap(nil, twos); e != api.ErrDomain {
		t.Error(e)
	}
}
