package conduct_test

import (
	"slices"
	"testing"

	"pileup/api"
	"pileup/conduct"
)

// holdAllLists holds Check and Needed of all lists of own lines of a log against the words of the document, and returns how many are accepted.
func holdAllLists(x truth, k api.Conduct, log int) int {
	x.t.Helper()
	accepted := 0
	for _, lines := range lists(x.own[log]) {
		for kind := api.BreachSignals; kind <= api.BreachPower; kind++ {
			f := api.Finding{Kind: kind, Log: log, Lines: lines}
			e := conduct.Check(x.c, k, f)
			needed, g := conduct.Needed(x.c, k, f)
			want, least := api.ErrFinding, []int{0}
			if x.proves(k, kind, log, lines) {
				accepted++
				want = api.OK
				least, _ = x.least(k, kind, log, lines)
			}
			if e != want || g != want || needed != (want == api.OK && len(least) == len(lines)) {
				x.t.Fatal(x.c, k, f, e, needed, g, "want", want, least)
			}
		}
	}
	return accepted
}

// N13, N14: all lists of own lines, of all kinds.
func TestCheckAllLists(t *testing.T) {
	mild := ruled(func(k *api.Conduct) {
		k.Gap, k.Hour, k.Changes, k.Minutes, k.Rest, k.Share = 20000, 20000, 0, 0, 20000, 0
	})
	for i, x := range []struct {
		c        api.Case
		k        api.Conduct
		accepted int
	}{{guilty(), strict(), 0}, {guilty(), mild, 0}, {example(), mild, 0}, {loose(), onAir(4, 30), 0}, {tuned(low, outside, middle, outside, high), mild, 0}} {
		if n := holdAllLists(truthOf(t, x.c), x.k, 0); n < 3 {
			t.Error(i, n)
		}
	}
}

// N13, N14: findings whose lines do not increase, are struck, are none, are too few or too many, or are not needed.
func TestCheck(t *testing.T) {
	c, k := guilty(), strict()
	const most, least = int(^uint(0) >> 1), -int(^uint(0)>>1) - 1
	for kind, lines := range proofs() {
		if kind == 0 {
			continue
		}
		f := api.Finding{Kind: kind, Lines: lines}
		e := conduct.Check(c, k, f)
		if needed, g := conduct.Needed(c, k, f); !needed || e+g != api.OK {
			t.Error(kind, needed, e, g)
		}
		wrong := [][]int{{6}, {8}, {-1}, {most}, {least}, {0}, {6, 7}, {5, 6}, {-1, 0}, {7, 8}, {7, most}, {least, 0}, {0, 0}, {3, 2}, {7, 0}, indices(8), indices(9), slices.Repeat([]int{0}, 1000), append(slices.Clone(lines), 6), append(slices.Clone(lines), 8), append([]int{-1}, lines...), append(slices.Clone(lines), 0)}
		if kind != api.BreachPower {
			backward := slices.Clone(lines)
			slices.Reverse(backward)
			wrong = append(wrong, nil, backward, lines[1:], lines[:len(lines)-1], append(slices.Clone(lines), lines...), append([]int{lines[0]}, lines...))
		}
		if kind == api.BreachSignals || kind == api.BreachSerial || kind == api.BreachPower {
			wrong = append(wrong, []int{0, 1, 2}, []int{1, 2, 3}, []int{2, 3, 4}, []int{0, 1, 2, 3})
		}
		for _, l := range wrong {
			f.Lines = l
			e := conduct.Check(c, k, f)
			if needed, g := conduct.Needed(c, k, f); needed || e != api.ErrFinding || g != e {
				t.Error(kind, l, e, needed, g)
			}
		}
	}
	for _, x := range []struct {
		kind   int
		lines  []int
		needed bool
	}{
		{api.BreachChanges, []int{0, 1, 2, 3}, true}, {api.BreachMinutes, []int{0, 2, 4, 7}, true}, {api.BreachMinutes, []int{0, 3, 4, 7}, true}, {api.BreachMinutes, []int{0, 1, 3, 4, 7}, false}, {api.BreachMinutes, []int{0, 2, 3, 4, 5, 7}, false}, {api.BreachMinutes, []int{0, 1, 2, 3, 4, 5, 7}, false}, {api.BreachShare, []int{0, 1, 2, 4}, true}, {api.BreachShare, indices(5), false},
	} {
		f := api.Finding{Kind: x.kind, Lines: x.lines}
		e := conduct.Check(c, k, f)
		if needed, g := conduct.Needed(c, k, f); needed != x.needed || e+g != api.OK {
			t.Error(x, e, needed, g)
		}
	}
	k.Changes = 1
	for _, x := range []struct {
		lines  []int
		needed bool
	}{{[]int{0, 1, 2, 3}, false}, {[]int{0, 1, 2}, true}, {[]int{1, 2, 3}, true}} {
		f := api.Finding{Kind: api.BreachChanges, Lines: x.lines}
		if needed, e := conduct.Needed(c, k, f); needed != x.needed || e != api.OK {
			t.Error(x, needed, e)
		}
	}
}

// N13 to N15: kinds that are none.
func TestNoKind(t *testing.T) {
	for _, kind := range []int{0, 7, -1, 1 << 62, -1 << 63} {
		for _, lines := range [][]int{nil, {0}, {0, 1}, {6}} {
			f := api.Finding{Kind: kind, Lines: lines}
			e := conduct.Check(guilty(), strict(), f)
			if needed, g := conduct.Needed(guilty(), strict(), f); needed || e != api.ErrFinding || g != e {
				t.Error(kind, lines, e, needed, g)
			}
		}
		if n, e := conduct.Fewest(guilty(), strict(), kind, 0); n != 0 || e != api.ErrArg {
			t.Error(kind, n, e)
		}
	}
}
