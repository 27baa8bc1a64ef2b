package copying_test

import (
	"math/rand/v2"
	"slices"
	"testing"

	"pileup/api"
	"pileup/copying"
)

// isKept reports whether indices are a kept set of numbers, as the words of the document say.
func isKept(l, kept []int) bool {
	n := len(l)
	for j, i := range kept {
		if l[i] < i+1 || l[i] > 99999-(n-1-i) {
			return false
		}
		if j > 0 && l[i]-l[kept[j-1]] < i-kept[j-1] {
			return false
		}
	}
	return true
}

// chainOf returns the first of the longest kept sets, by trying all sets.
func chainOf(l []int) []int {
	var best []int
	for set := range 1 << len(l) {
		var kept []int
		for i := range l {
			if set>>i&1 > 0 {
				kept = append(kept, i)
			}
		}
		if isKept(l, kept) && (len(kept) > len(best) || len(kept) == len(best) && slices.Compare(kept, best) < 0) {
			best = kept
		}
	}
	return best
}

// chain and rise return what must not be an error.
func chain(t *testing.T, l []int) []int {
	t.Helper()
	given := slices.Clone(l)
	kept, e := copying.Chain(l)
	if e != api.OK || !slices.Equal(l, given) {
		t.Fatal(l, e)
	}
	return kept
}
func rise(t *testing.T, l []int) []int {
	t.Helper()
	given := slices.Clone(l)
	changed, e := copying.Rise(l)
	if e != api.OK || !slices.Equal(l, given) {
		t.Fatal(l, e)
	}
	return changed
}

// holdRise holds what is told of numbers against one another, but for that it is the best.
func holdRise(t *testing.T, l []int) {
	t.Helper()
	kept, changed := chain(t, l), rise(t, l)
	if len(changed) != len(l) || !isKept(l, kept) {
		t.Fatal(l, kept, changed)
	}
	before := 0
	for i, n := range changed {
		want := before + 1
		if slices.Contains(kept, i) {
			want = l[i]
		}
		if n != want || n <= before || n > 99999 {
			t.Fatal(l, kept, changed)
		}
		before = n
	}
	given := slices.Clone(changed)
	if n, e := copying.CheckRise(l, changed); n != len(l)-len(kept) || e != api.OK || !slices.Equal(changed, given) {
		t.Fatal(l, kept, changed, n, e)
	}
}

// upTo returns the numbers from one to another one.
func upTo(lo, hi int) []int {
	var l []int
	for n := lo; n <= hi; n++ {
		l = append(l, n)
	}
	return l
}

// C18, C19: the examples, chains that are empty or as long as the list, several longest ones, both ends of the range.
func TestChain(t *testing.T) {
	for _, x := range []struct{ l, kept, rising []int }{
		{[]int{1, 5, 2, 3, 9}, []int{0, 1, 4}, []int{1, 5, 6, 7, 9}},
		{nil, nil, nil},
		{[]int{0}, nil, []int{1}},
		{[]int{1}, []int{0}, []int{1}},
		{[]int{99999}, []int{0}, []int{99999}},
		{[]int{0, 0, 0}, nil, []int{1, 2, 3}},
		{[]int{0, 1, 2, 3}, nil, []int{1, 2, 3, 4}},
		{[]int{1, 2, 3, 4}, []int{0, 1, 2, 3}, []int{1, 2, 3, 4}},
		{[]int{1, 1, 2, 2, 5}, []int{0, 4}, []int{1, 2, 3, 4, 5}},
		{[]int{7, 7, 7}, []int{0}, []int{7, 8, 9}},
		{[]int{5, 4, 3}, []int{0}, []int{5, 6, 7}},
		{[]int{99999, 99999}, []int{1}, []int{1, 99999}},
		{[]int{99998, 99999}, []int{0, 1}, []int{99998, 99999}},
		{[]int{99999, 99998}, []int{1}, []int{1, 99998}},
		{[]int{99999, 0}, nil, []int{1, 2}},
		{[]int{99997, 99998, 99998}, []int{0, 1}, []int{99997, 99998, 99999}},
		{[]int{2, 9, 3, 9, 4}, []int{0, 1}, []int{2, 9, 10, 11, 12}},
		{[]int{3, 4, 1, 2, 3}, []int{0, 1}, []int{3, 4, 5, 6, 7}},
		{[]int{9, 3, 8, 4, 9}, []int{1, 2}, []int{1, 3, 8, 9, 10}},
		{[]int{6, 3, 9, 5, 12, 7}, []int{0, 2, 4}, []int{6, 7, 9, 10, 12, 13}},
	} {
		if kept := chain(t, x.l); !slices.Equal(kept, x.kept) {
			t.Error(x, kept)
		}
		if changed := rise(t, x.l); !slices.Equal(changed, x.rising) {
			t.Error(x, changed)
		}
		holdRise(t, x.l)
	}
}

// C18: as many numbers as there may be.
func TestLongChains(t *testing.T) {
	for _, x := range []struct {
		l    []int
		kept int
	}{
		{upTo(1, 400), 400}, {upTo(99600, 99999), 400}, {upTo(50, 449), 400}, {upTo(0, 399), 0}, {slices.Repeat([]int{500}, 400), 1}, {slices.Repeat([]int{99999}, 400), 1}, {slices.Repeat([]int{0}, 400), 0},
		{slices.Repeat([]int{99600, 0}, 200), 1}, {slices.Concat(upTo(201, 400), upTo(1, 200)), 200}, {slices.Concat(upTo(1, 200), upTo(99800, 99999)), 400},
	} {
		if kept := chain(t, x.l); len(kept) != x.kept {
			t.Error(x.l[:3], len(kept), x.kept)
		}
		holdRise(t, x.l)
	}
	r := rand.New(rand.NewPCG(4, 18))
	for range 20 {
		var l []int
		for i := range api.MaxLines {
			l = append(l, []int{i + 1 + r.IntN(3), r.IntN(100000)}[r.IntN(2)])
		}
		holdRise(t, l)
	}
}

// anyNumbers returns at most n random numbers that lie near to the least or to the greatest one.
func anyNumbers(r *rand.Rand, n int) []int {
	var l []int
	width := 1 + r.IntN(2*n)
	high := r.IntN(2) == 0
	for i := range r.IntN(n + 1) {
		x := r.IntN(width + 1)
		if r.IntN(2) == 0 {
			x = i + r.IntN(3)
		}
		if high {
			x = max(99999-x, 0)
		}
		l = append(l, x)
	}
	if high && r.IntN(3) > 0 {
		slices.Reverse(l)
	}
	return l
}

// C18: short lists, held against all kept sets.
func TestAllKeptSets(t *testing.T) {
	r := rand.New(rand.NewPCG(4, 20))
	for range 4000 {
		l := anyNumbers(r, 9)
		if kept, want := chain(t, l), chainOf(l); !slices.Equal(kept, want) {
			t.Fatal(l, kept, "want", want)
		}
		holdRise(t, l)
	}
}

// risingOf yields all rising lists of n of some rising numbers.
func risingOf(numbers []int, n int, yield func([]int)) {
	var walk func(from int, l []int)
	walk = func(from int, l []int) {
		if len(l) == n {
			yield(l)
			return
		}
		for i := from; i < len(numbers); i++ {
			walk(i+1, append(l[:len(l):len(l)], numbers[i]))
		}
	}
	walk(0, nil)
}

// P4.8: short lists at both ends of the range, held against all rising lists.
func TestFewestChanges(t *testing.T) {
	r := rand.New(rand.NewPCG(4, 8))
	for range 200 {
		n := r.IntN(6)
		// Between and behind the numbers of the list the others leave enough room for those that change.
		given, numbers := upTo(0, 9), upTo(1, 14)
		if r.IntN(2) == 0 {
			given, numbers = append(upTo(0, 3), upTo(99992, 99999)...), append(upTo(1, 7), upTo(99992, 99999)...)
		}
		var l []int
		for range n {
			l = append(l, given[r.IntN(len(given))])
		}
		fewest := len(l)
		risingOf(numbers, n, func(changed []int) {
			differ, e := copying.CheckRise(l, changed)
			want := 0
			for i := range l {
				if l[i] != changed[i] {
					want++
				}
			}
			if differ != want || e != api.OK {
				t.Fatal(l, changed, differ, e)
			}
			fewest = min(fewest, differ)
		})
		if differ, e := copying.CheckRise(l, rise(t, l)); differ != fewest || e != api.OK {
			t.Fatal(l, differ, e, "want", fewest)
		}
	}
}

// badNumbers returns lists that are no arguments of Chain, with their errors.
func badNumbers() map[api.Errno][][]int {
	return map[api.Errno][][]int{
		api.ErrLimit: {upTo(1, 401), slices.Repeat([]int{-1}, 401), append(upTo(1, 400), most), make([]int, 100000)},
		api.ErrArg:   {{-1}, {100000}, {1, 2, 100000}, {-1, 2, 3}, {most}, {least}, append(upTo(1, 399), 100000), {1, least, most}},
	}
}

// C18 to C20: the errors of Chain.
func TestChainErrors(t *testing.T) {
	for want, lists := range badNumbers() {
		for _, l := range lists {
			if kept, e := copying.Chain(l); len(kept) > 0 || e != want {
				t.Error(l, kept, e)
			}
			if changed, e := copying.Rise(l); len(changed) > 0 || e != want {
				t.Error(l, changed, e)
			}
			for _, changed := range [][]int{l, nil, {1}, {5, 4}, upTo(1, len(l))} {
				if n, e := copying.CheckRise(l, changed); n != 0 || e != want {
					t.Error(l, changed, n, e)
				}
			}
		}
	}
}

// C20: lists that differ at some indices, at none, and lists that do not rise.
func TestCheckRise(t *testing.T) {
	l := []int{1, 5, 2, 3, 9}
	is := func(l, changed []int, want int, e api.Errno) {
		t.Helper()
		if n, f := copying.CheckRise(l, changed); n != want || f != e {
			t.Error(l, changed, n, f)
		}
	}
	is(l, []int{1, 5, 6, 7, 9}, 2, api.OK)
	is(l, []int{1, 5, 7, 8, 9}, 2, api.OK)
	is(l, []int{1, 2, 3, 4, 9}, 3, api.OK)
	is(l, []int{2, 3, 4, 5, 6}, 5, api.OK)
	is(l, []int{1, 5, 6, 7, 99999}, 3, api.OK)
	is(nil, nil, 0, api.OK)
	is([]int{0}, []int{1}, 1, api.OK)
	is([]int{3}, []int{3}, 0, api.OK)
	is([]int{3}, []int{99999}, 1, api.OK)
	is(upTo(1, 400), upTo(1, 400), 0, api.OK)
	is(upTo(1, 400), upTo(2, 401), 400, api.OK)
	is(l, l, 0, api.ErrRise)
	is(l, []int{1, 5, 6, 7, 100000}, 0, api.ErrRise)
	is(l, []int{1, 5, 6, 7, most}, 0, api.ErrRise)
	is(l, []int{0, 5, 6, 7, 9}, 0, api.ErrRise)
	is(l, []int{-1, 5, 6, 7, 9}, 0, api.ErrRise)
	is(l, []int{least, 5, 6, 7, 9}, 0, api.ErrRise)
	is(l, []int{1, 5, 5, 7, 9}, 0, api.ErrRise)
	is(l, []int{1, 5, 6, 7, 7}, 0, api.ErrRise)
	is(l, []int{1, 5, 6, 7}, 0, api.ErrRise)
	is(l, []int{1, 5, 6, 7, 9, 10}, 0, api.ErrRise)
	is(l, nil, 0, api.ErrRise)
	is(nil, []int{1}, 0, api.ErrRise)
	is([]int{0}, []int{0}, 0, api.ErrRise)
	is([]int{5}, []int{}, 0, api.ErrRise)
	is(upTo(1, 400), upTo(1, 401), 0, api.ErrRise)
}
