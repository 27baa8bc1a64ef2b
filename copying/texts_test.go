package copying_test

import (
	"math/rand/v2"
	"slices"
	"strings"
	"testing"

	"pileup/api"
	"pileup/copying"
)

// missOf and extraOf are the costs of the document.
func missOf(mode int) int  { return [...]int{api.Morse: 3, api.Voice: 2, api.Data: 2}[mode] }
func extraOf(mode int) int { return [...]int{api.Morse: 3, api.Voice: 3, api.Data: 2}[mode] }

// alignmentsOf returns all alignments of two short texts, in order.
func alignmentsOf(mode int, s, h string) [][]api.Step {
	var all [][]api.Step
	var walk func(i, k int, l []api.Step)
	walk = func(i, k int, l []api.Step) {
		l = slices.Clip(l)
		if i < len(s) && k < len(h) {
			walk(i+1, k+1, append(l, move(i, k, swapOf(mode, s[i:i+1], h[k:k+1]))))
		}
		if i < len(s) {
			walk(i+1, k, append(l, move(i, -1, missOf(mode))))
		}
		if k < len(h) {
			walk(i, k+1, append(l, move(-1, k, extraOf(mode))))
		}
		if i == len(s) && k == len(h) {
			all = append(all, l)
		}
	}
	walk(0, 0, nil)
	return all
}

// move is a short way to write a step.
func move(s, h, cost int) api.Step { return api.Step{S: s, H: h, Cost: cost} }

// sum returns what the steps of an alignment cost.
func sum(l []api.Step) int {
	n := 0
	for _, step := range l {
		n += step.Cost
	}
	return n
}

// costOf, alignOf and tableOf return what must not be an error.
func costOf(t *testing.T, mode int, s, h string) int {
	t.Helper()
	n, e := copying.Cost(mode, s, h)
	if e != api.OK {
		t.Fatal(mode, s, h, e)
	}
	return n
}
func alignOf(t *testing.T, mode int, s, h string) []api.Step {
	t.Helper()
	l, e := copying.Align(mode, s, h)
	if e != api.OK {
		t.Fatal(mode, s, h, e)
	}
	return l
}
func tableOf(t *testing.T, mode int, s, h string) [][]int {
	t.Helper()
	l, e := copying.Table(mode, s, h)
	if e != api.OK {
		t.Fatal(mode, s, h, e)
	}
	return l
}

// C7: the examples, empty texts and texts of MaxCopy bytes.
func TestCost(t *testing.T) {
	for _, x := range []struct {
		mode int
		s, h string
		want int
	}{
		{api.Morse, "K1ABC", "K1ABS", 2}, {api.Voice, "DL1", "L1", 2}, {api.Data, "K1AA", "K1AB", 2},
		{api.Voice, "L1", "DL1", 3}, {api.Morse, "DL1", "L1", 3}, {api.Data, "DL1", "L1", 2},
		{api.Morse, "", "", 0}, {api.Voice, "", "", 0}, {api.Data, "", "", 0},
		{api.Morse, "K1AB", "", 12}, {api.Morse, "", "K1AB", 12}, {api.Voice, "K1AB", "", 8}, {api.Voice, "", "K1AB", 12}, {api.Data, "K1AB", "", 8}, {api.Data, "", "K1AB", 8},
		{api.Morse, "E", "0", 5}, {api.Voice, "AB", "BA", 5}, {api.Data, "AB", "BA", 4}, {api.Morse, "AN", "NA", 4}, {api.Morse, "ETET", "TETE", 4}, {api.Voice, "DLDLDL", "LDLDLD", 5},
		{api.Morse, longest(), longest(), 0}, {api.Morse, longest(), "", 192}, {api.Voice, longest(), "", 128}, {api.Voice, "", longest(), 192}, {api.Data, longest(), strings.Repeat("X", 64), 128},
		{api.Morse, strings.Repeat("E", 64), strings.Repeat("0", 64), 320}, {api.Data, longest(), longest()[1:] + "K", 4}, {api.Voice, longest(), longest()[1:], 2},
	} {
		if n := costOf(t, x.mode, x.s, x.h); n != x.want {
			t.Error(x, n)
		}
	}
}

// C8, C9: the examples, and alignments of which several cost least.
func TestAlign(t *testing.T) {
	for _, x := range []struct {
		mode int
		s, h string
		want []api.Step
	}{
		{api.Voice, "DL1", "L1", []api.Step{move(0, -1, 2), move(1, 0, 0), move(2, 1, 0)}},
		{api.Data, "", "", nil},
		{api.Data, "AB", "", []api.Step{move(0, -1, 2), move(1, -1, 2)}},
		{api.Voice, "", "AB", []api.Step{move(-1, 0, 3), move(-1, 1, 3)}},
		{api.Data, "AA", "A", []api.Step{move(0, 0, 0), move(1, -1, 2)}},
		{api.Data, "A", "AA", []api.Step{move(0, 0, 0), move(-1, 1, 2)}},
		{api.Data, "AB", "BA", []api.Step{move(0, 0, 2), move(1, 1, 2)}},
		{api.Data, "AB", "C", []api.Step{move(0, 0, 2), move(1, -1, 2)}},
		{api.Voice, "AB", "BA", []api.Step{move(0, -1, 2), move(1, 0, 0), move(-1, 1, 3)}},
		{api.Morse, "ABAB", "BABA", []api.Step{move(0, -1, 3), move(1, 0, 0), move(2, 1, 0), move(3, 2, 0), move(-1, 3, 3)}},
	} {
		if l := alignOf(t, x.mode, x.s, x.h); !slices.Equal(l, x.want) {
			t.Error(x, l)
		}
		if n, e := copying.CheckAlign(x.mode, x.s, x.h, x.want); n != sum(x.want) || e != api.OK {
			t.Error(x, n, e)
		}
	}
	for _, mode := range modes {
		if l := alignOf(t, mode, longest(), longest()[3:]+"A1K"); len(l) < 64 || sum(l) != costOf(t, mode, longest(), longest()[3:]+"A1K") {
			t.Error(mode, l)
		}
	}
}

// C7 to C9: short texts, held against all of their alignments.
func TestAllAlignments(t *testing.T) {
	for _, mode := range modes {
		texts := append(textsOf("ET0", 2), "B", "PB", "K1A", "1AK", "DL1", "L1", "5NN", "599", "R/6")
		for _, s := range texts {
			for _, h := range texts {
				all := alignmentsOf(mode, s, h)
				// A first one of several is the minimum that is told.
				best := slices.MinFunc(all, func(a, b []api.Step) int { return sum(a) - sum(b) })
				if n, l := costOf(t, mode, s, h), alignOf(t, mode, s, h); n != sum(best) || !slices.Equal(l, best) {
					t.Fatal(mode, s, h, n, l, "want", best)
				}
				for _, l := range all {
					kept := slices.Clone(l)
					if n, e := copying.CheckAlign(mode, s, h, l); n != sum(l) || e != api.OK || !slices.Equal(l, kept) {
						t.Fatal(mode, s, h, l, n, e)
					}
				}
			}
		}
	}
}

// spoilt returns lists of steps that differ from one at one place.
func spoilt(l []api.Step) [][]api.Step {
	var all [][]api.Step
	for i := range l {
		for _, n := range []int{-2, -1, 0, 1, 2, 3, 4, 5, 64, most, least} {
			for _, step := range []api.Step{move(n, l[i].H, l[i].Cost), move(l[i].S, n, l[i].Cost), move(l[i].S, l[i].H, n), move(l[i].S+n, l[i].H+n, l[i].Cost)} {
				m := slices.Clone(l)
				m[i] = step
				all = append(all, m)
			}
		}
		all = append(all, slices.Delete(slices.Clone(l), i, i+1), slices.Insert(slices.Clone(l), i, l[i]), slices.Insert(slices.Clone(l), i, move(-1, -1, 0)))
		m := slices.Clone(l)
		m[0], m[i] = m[i], m[0]
		all = append(all, m)
	}
	for _, step := range []api.Step{{}, move(-1, -1, 0), move(len(l), -1, 2), move(-1, len(l), 2), move(len(l), len(l), 0)} {
		all = append(all, append(slices.Clone(l), step))
	}
	return append(all, nil)
}

// C9: lists that are an alignment of other texts, or of none; all that is wrong in one place.
func TestCheckAlignErrors(t *testing.T) {
	for _, mode := range modes {
		for _, x := range [][2]string{{"DL1", "L1"}, {"L1", "DL1"}, {"K1A", "A1K"}, {"", "EE"}, {"EE", ""}, {"", ""}, {"ETE", "0"}} {
			s, h := x[0], x[1]
			all := alignmentsOf(mode, s, h)
			is := func(l []api.Step) bool {
				return slices.ContainsFunc(all, func(m []api.Step) bool { return slices.Equal(l, m) })
			}
			for _, right := range all {
				for _, l := range spoilt(right) {
					n, e := copying.CheckAlign(mode, s, h, l)
					if is(l) && (n != sum(l) || e != api.OK) || !is(l) && (n != 0 || e != api.ErrAlign) {
						t.Fatal(mode, s, h, l, n, e)
					}
				}
			}
		}
		l := alignOf(t, mode, "DL1", "L1")
		for _, x := range [][2]string{{"DL1", "L2"}, {"L1", "DL1"}, {"DL1X", "L1"}, {"DL1", "L1X"}, {"DL", "L1"}, {"", ""}} {
			if n, e := copying.CheckAlign(mode, x[0], x[1], l); n != 0 || e != api.ErrAlign {
				t.Error(mode, x, n, e)
			}
		}
		if n, e := copying.CheckAlign(mode, "E", "E", make([]api.Step, 100000)); n != 0 || e != api.ErrAlign {
			t.Error(mode, n, e)
		}
	}
}

// C10: the example, the empty text, and each element of tables.
func TestTable(t *testing.T) {
	if l := tableOf(t, api.Data, "A", "AB"); !sameRows(l, [][]int{{0, 2, 4}, {2, 0, 2}}) {
		t.Error(l)
	}
	for _, mode := range modes {
		if l := tableOf(t, mode, "", ""); !sameRows(l, [][]int{{0}}) {
			t.Error(l)
		}
		if l := tableOf(t, mode, "EE", ""); !sameRows(l, [][]int{{0}, {missOf(mode)}, {2 * missOf(mode)}}) {
			t.Error(l)
		}
		if l := tableOf(t, mode, "", "EE"); !sameRows(l, [][]int{{0, extraOf(mode), 2 * extraOf(mode)}}) {
			t.Error(l)
		}
		for _, x := range [][2]string{{"DL1ABC", "L1AVC"}, {"K1AA", "K1AA"}, {longest(), "1AB"}, {"ET", longest()}} {
			l := tableOf(t, mode, x[0], x[1])
			if len(l) != len(x[0])+1 {
				t.Fatal(l)
			}
			for i, row := range l {
				if len(row) != len(x[1])+1 {
					t.Fatal(l)
				}
				for k, n := range row {
					if n != costOf(t, mode, x[0][:i], x[1][:k]) {
						t.Fatal(mode, x, i, k, n)
					}
				}
			}
		}
	}
}

// The rows of a table share no memory, nor do they grow into one another.
func TestTableRows(t *testing.T) {
	l := tableOf(t, api.Voice, "AB", "AB")
	want := tableOf(t, api.Voice, "AB", "AB")
	for i := range l {
		_ = append(l[i], 77, 77, 77)
		if !sameRows(l, want) {
			t.Fatal(l)
		}
	}
}

// copyOf returns a table that shares no memory with another one.
func copyOf(t [][]int) [][]int {
	var l [][]int
	for _, row := range t {
		l = append(l, slices.Clone(row))
	}
	return l
}

// provesOf reports what CheckTable must say of a table, by the words of the document: each of its conditions on its own.
func provesOf(mode int, s, h string, t [][]int) bool {
	if len(t) != len(s)+1 {
		return false
	}
	for _, row := range t {
		if len(row) != len(h)+1 || slices.Max(row) > 1000000 || slices.Min(row) < -1000000 {
			return false
		}
	}
	ok := t[0][0] == 0
	for i := range s {
		for k := range len(h) + 1 {
			ok = ok && t[i+1][k] <= t[i][k]+missOf(mode)
		}
	}
	for k := range h {
		for i := range len(s) + 1 {
			ok = ok && t[i][k+1] <= t[i][k]+extraOf(mode)
		}
	}
	for i := range s {
		for k := range h {
			ok = ok && t[i+1][k+1] <= t[i][k]+swapOf(mode, s[i:i+1], h[k:k+1])
		}
	}
	return ok
}

// C11: tables that prove just the cost, or less; each element changed alone.
func TestCheckTable(t *testing.T) {
	for _, mode := range modes {
		for _, x := range [][2]string{{"DL1", "L1"}, {"L1", "DL1"}, {"K1A", "A1K"}, {"", "EE"}, {"EE", ""}, {"", ""}, {"K1AB", "K1AB"}} {
			s, h := x[0], x[1]
			right := tableOf(t, mode, s, h)
			is := func(l [][]int) {
				t.Helper()
				kept := copyOf(l)
				n, e := copying.CheckTable(mode, s, h, l)
				if !sameRows(l, kept) {
					t.Fatal("changed", l)
				}
				if provesOf(mode, s, h, l) {
					if n != l[len(s)][len(h)] || e != api.OK || n > costOf(t, mode, s, h) {
						t.Fatal(mode, x, l, n, e)
					}
				} else if n != 0 || e != api.ErrAlign {
					t.Fatal(mode, x, l, n, e)
				}
			}
			is(right)
			for i := range right {
				for k := range right[i] {
					for _, n := range []int{right[i][k] - 1, right[i][k] + 1, right[i][k] + 2, 0, -1, 5, -999990, -1000000, -1000001, 999990, 1000000, 1000001, most, least} {
						l := copyOf(right)
						l[i][k] = n
						is(l)
					}
				}
				l := copyOf(right)
				l[i] = append(l[i], 0)
				is(l)
				l[i] = l[i][:len(h)]
				is(l)
				is(slices.Delete(copyOf(right), i, i+1))
				is(slices.Insert(copyOf(right), i, right[i]))
			}
			is(nil)
			is([][]int{nil})
			is(append(copyOf(right), nil))
		}
	}
}

// C11: elements at both limits, of which each condition is kept or not.
func TestCheckTableLimits(t *testing.T) {
	is := func(s, h string, l [][]int, want int, e api.Errno) {
		t.Helper()
		if n, f := copying.CheckTable(api.Voice, s, h, l); n != want || f != e {
			t.Error(s, h, l, n, f)
		}
	}
	is("", "", [][]int{{0}}, 0, api.OK)
	is("", "", [][]int{{1}}, 0, api.ErrAlign)
	is("", "", [][]int{{-1}}, 0, api.ErrAlign)
	is("A", "", [][]int{{0}, {2}}, 2, api.OK)
	is("A", "", [][]int{{0}, {3}}, 0, api.ErrAlign)
	is("A", "", [][]int{{0}, {-1000000}}, -1000000, api.OK)
	is("A", "", [][]int{{0}, {-1000001}}, 0, api.ErrAlign)
	is("A", "", [][]int{{0}, {least}}, 0, api.ErrAlign)
	is("", "A", [][]int{{0, 3}}, 3, api.OK)
	is("", "A", [][]int{{0, 4}}, 0, api.ErrAlign)
	is("", "A", [][]int{{0, -1000000}}, -1000000, api.OK)
	is("A", "H", [][]int{{0, 3}, {2, 1}}, 1, api.OK)
	is("A", "H", [][]int{{0, 3}, {2, 2}}, 0, api.ErrAlign)
	is("A", "B", [][]int{{0, 3}, {2, 3}}, 3, api.OK)
	is("A", "B", [][]int{{0, 3}, {2, 4}}, 0, api.ErrAlign)
	is("A", "B", [][]int{{0, 0}, {0, 2}}, 2, api.OK)
	is("A", "B", [][]int{{0, 0}, {-1, 3}}, 0, api.ErrAlign)
	is("A", "B", [][]int{{0, -1}, {0, 2}}, 0, api.ErrAlign)
	is("AA", "", [][]int{{0}, {-1000000}, {-999998}}, -999998, api.OK)
	is("AA", "", [][]int{{0}, {-1000000}, {-999997}}, 0, api.ErrAlign)
	is("AA", "", [][]int{{0}, {least}, {most}}, 0, api.ErrAlign)
}

// C12: by cost, and by index if costs are equal; all numbers as most.
func TestNearest(t *testing.T) {
	l := []string{"K1AB", "K1AA", "", "K1AA", "DL1XYZ", "K1AC", "K1A"}
	kept := slices.Clone(l)
	for _, x := range []struct {
		mode int
		h    string
		most int
		want []int
	}{
		{api.Data, "K1AA", most, []int{1, 3, 0, 5, 6, 2, 4}},
		{api.Data, "K1AA", 10, []int{1, 3, 0, 5, 6, 2, 4}},
		{api.Data, "K1AA", 9, []int{1, 3, 0, 5, 6, 2}},
		{api.Data, "K1AA", 8, []int{1, 3, 0, 5, 6, 2}},
		{api.Data, "K1AA", 7, []int{1, 3, 0, 5, 6}},
		{api.Data, "K1AA", 2, []int{1, 3, 0, 5, 6}},
		{api.Data, "K1AA", 1, []int{1, 3}},
		{api.Data, "K1AA", 0, []int{1, 3}},
		{api.Data, "K1AA", -1, nil},
		{api.Data, "K1AA", least, nil},
		{api.Voice, "K1AB", 3, []int{0, 5, 1, 3, 6}},
		{api.Morse, "K1AB", 2, []int{0, 5}},
		{api.Data, "", 8, []int{2, 6, 0, 1, 3, 5}},
	} {
		if got, e := copying.Nearest(x.mode, x.h, l, x.most); !slices.Equal(got, x.want) || e != api.OK || !slices.Equal(l, kept) {
			t.Error(x, got, e)
		}
	}
	if got, e := copying.Nearest(api.Morse, "K1AB", nil, most); len(got) > 0 || e != api.OK {
		t.Error(got, e)
	}
}

// C12: random texts, held against the cost of each.
func TestNearestOfMany(t *testing.T) {
	r := rand.New(rand.NewPCG(4, 12))
	for range 100 {
		mode, h, limit := modes[r.IntN(3)], anyText(r, alphabet, 6), r.IntN(20)
		var l []string
		for range r.IntN(30) {
			l = append(l, near(r, h, r.IntN(5)))
		}
		var want []int
		for cost := range limit + 1 {
			for i, s := range l {
				if costOf(t, mode, s, h) == cost {
					want = append(want, i)
				}
			}
		}
		if got, e := copying.Nearest(mode, h, l, limit); !slices.Equal(got, want) || e != api.OK {
			t.Fatal(mode, h, l, limit, got, e, "want", want)
		}
	}
}

// C12: the limits and the errors in their order.
func TestNearestErrors(t *testing.T) {
	many := slices.Repeat([]string{longest()}, api.MaxLines)
	if got, e := copying.Nearest(api.Morse, longest()[1:], many, 3); len(got) != api.MaxLines || e != api.OK || !slices.IsSorted(got) {
		t.Error(got, e)
	}
	for _, x := range []struct {
		mode int
		h    string
		l    []string
		want api.Errno
	}{
		{0, tooLong(), append(many, "k"), api.ErrMode},
		{4, "K", nil, api.ErrMode},
		{1, "K", append(many, "K"), api.ErrLimit},
		{1, "k", append(many, "k"), api.ErrLimit},
		{1, tooLong(), nil, api.ErrLimit},
		{1, "k", []string{"K", tooLong()}, api.ErrLimit},
		{1, "K", []string{"k", tooLong()}, api.ErrLimit},
		{1, tooLong(), []string{"k"}, api.ErrLimit},
		{1, "k", nil, api.ErrKey},
		{1, "K", []string{"K", "", "K\x00"}, api.ErrKey},
		{1, "K", append(many[1:], "k"), api.ErrKey},
	} {
		for _, limit := range []int{0, most, least} {
			if got, e := copying.Nearest(x.mode, x.h, x.l, limit); len(got) > 0 || e != x.want {
				t.Error(x.mode, x.h, len(x.l), limit, got, e, "want", x.want)
			}
		}
	}
}

// P4.3, P4.4: random texts; what is accepted of others proves nothing else.
func TestDistances(t *testing.T) {
	r := rand.New(rand.NewPCG(4, 3))
	for range 3000 {
		mode := modes[r.IntN(3)]
		chars := []string{alphabet, "K1AB", "ET", "DB3P6R/"}[r.IntN(4)]
		s := anyText(r, chars, 9)
		h := []string{anyText(r, chars, 9), near(r, s, r.IntN(4)), s}[r.IntN(3)]
		u := []string{anyText(r, chars, 9), near(r, h, r.IntN(4))}[r.IntN(2)]
		n := costOf(t, mode, s, h)
		if (n == 0) != (s == h) {
			t.Fatal(mode, s, h, n)
		}
		if costOf(t, mode, s, u) > n+costOf(t, mode, h, u) {
			t.Fatal(mode, s, h, u)
		}
		if back := costOf(t, mode, h, s); mode != api.Voice && back != n {
			t.Fatal(mode, s, h, n, back)
		}
		holdWitnesses(t, r, mode, s, h)
	}
}

// holdWitnesses holds alignments and tables of two texts against their cost.
func holdWitnesses(t *testing.T, r *rand.Rand, mode int, s, h string) {
	t.Helper()
	cost := costOf(t, mode, s, h)
	l := alignOf(t, mode, s, h)
	if n, e := copying.CheckAlign(mode, s, h, l); n != cost || e != api.OK {
		t.Fatal(mode, s, h, l, n, e)
	}
	table := tableOf(t, mode, s, h)
	if n, e := copying.CheckTable(mode, s, h, table); n != cost || e != api.OK {
		t.Fatal(mode, s, h, table, n, e)
	}
	own := anyAlignment(r, mode, s, h)
	if n, e := copying.CheckAlign(mode, s, h, own); n != sum(own) || n < cost || e != api.OK {
		t.Fatal(mode, s, h, own, n, e)
	}
	for range 5 {
		row := table[r.IntN(len(table))]
		row[r.IntN(len(row))] += r.IntN(7) - 3
		if n, e := copying.CheckTable(mode, s, h, table); e == api.OK && n > cost || (e == api.OK) != provesOf(mode, s, h, table) {
			t.Fatal(mode, s, h, table, n, e)
		}
	}
}

// anyAlignment returns a random alignment.
func anyAlignment(r *rand.Rand, mode int, s, h string) []api.Step {
	var l []api.Step
	for i, k := 0, 0; i < len(s) || k < len(h); {
		kind := r.IntN(3)
		switch {
		case kind == 0 && i < len(s) && k < len(h):
			l = append(l, move(i, k, swapOf(mode, s[i:i+1], h[k:k+1])))
			i, k = i+1, k+1
		case kind == 1 && i < len(s):
			l = append(l, move(i, -1, missOf(mode)))
			i++
		case kind == 2 && k < len(h):
			l = append(l, move(-1, k, extraOf(mode)))
			k++
		}
	}
	return l
}

// P4.5: texts put together, and alignments cut in two at each place.
func TestParts(t *testing.T) {
	r := rand.New(rand.NewPCG(4, 5))
	for range 600 {
		mode := modes[r.IntN(3)]
		s, h := anyText(r, alphabet, 8), anyText(r, alphabet, 8)
		s2, h2 := anyText(r, alphabet, 8), anyText(r, alphabet, 8)
		if costOf(t, mode, s+s2, h+h2) > costOf(t, mode, s, h)+costOf(t, mode, s2, h2) {
			t.Fatal(mode, s, h, s2, h2)
		}
		for _, l := range [][]api.Step{alignOf(t, mode, s, h), anyAlignment(r, mode, s, h)} {
			for at := range len(l) + 1 {
				holdCut(t, mode, s, h, l, at)
			}
		}
	}
}

// holdCut cuts an alignment in two, and holds each of the halves against its part of the texts.
func holdCut(t *testing.T, mode int, s, h string, l []api.Step, at int) {
	t.Helper()
	i, k := 0, 0
	for _, step := range l[:at] {
		i, k = max(i, step.S+1), max(k, step.H+1)
	}
	var behind []api.Step
	for _, step := range l[at:] {
		if step.S >= 0 {
			step.S -= i
		}
		if step.H >= 0 {
			step.H -= k
		}
		behind = append(behind, step)
	}
	a, e := copying.CheckAlign(mode, s[:i], h[:k], l[:at])
	b, f := copying.CheckAlign(mode, s[i:], h[k:], behind)
	if a+b != sum(l) || e != api.OK || f != api.OK {
		t.Fatal(mode, s, h, l, at, a, b, e, f)
	}
}
