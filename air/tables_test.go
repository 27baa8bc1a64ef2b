package air_test

import (
	"math/rand/v2"
	"slices"
	"strings"
	"testing"

	"pileup/air"
	"pileup/api"
)

// row is a short way to write a row without Whole, in continent 1, whose zone is its country as far as there are zones.
func row(text string, country, from, to int) api.Prefix {
	return api.Prefix{Text: text, Country: country, Zone: min(country, api.MaxZone), Continent: 1, From: from, To: to}
}

// whole is a row with Whole.
func whole(text string, country, from, to int) api.Prefix {
	x := row(text, country, from, to)
	x.Whole = true
	return x
}

// exampleRows are the rows of the chapter's examples.
func exampleRows() []api.Prefix {
	x := whole("DL9X", 16, 10, 20)
	x.Continent = 2
	return []api.Prefix{row("DL", 14, 0, 99), row("D", 15, 50, 200), x}
}

// manyRows returns n rows with the same text, each on a day of its own.
func manyRows(n int) []api.Prefix {
	var l []api.Prefix
	for i := range n {
		l = append(l, row("DL", i%99+1, i, i))
	}
	return l
}

// badRows returns rows that are not valid, each beside a valid one.
func badRows() []api.Prefix {
	var l []api.Prefix
	add := func(change func(x *api.Prefix)) {
		x := whole("DL9X", 16, 10, 20)
		change(&x)
		l = append(l, x)
	}
	for _, s := range []string{"", "dl", "D-", "D L", "DÄ", "D\xff", " DL", "DL ", strings.Repeat("A", 17), strings.Repeat("Ä", 9)} {
		add(func(x *api.Prefix) { x.Text = s })
		add(func(x *api.Prefix) { x.Text, x.Whole = s, false })
	}
	for _, s := range []string{"DL/W1AW", "/", "W1AW/"} {
		add(func(x *api.Prefix) { x.Text, x.Whole = s, false })
	}
	for _, n := range []int{0, -1, 65536, 1 << 62, -1 << 63} {
		add(func(x *api.Prefix) { x.Country = n })
	}
	for _, n := range []int{0, -1, 100} {
		add(func(x *api.Prefix) { x.Zone = n })
	}
	for _, n := range []int{0, -1, 8} {
		add(func(x *api.Prefix) { x.Continent = n })
	}
	add(func(x *api.Prefix) { x.From = -1 })
	add(func(x *api.Prefix) { x.From, x.To = -5, -1 })
	add(func(x *api.Prefix) { x.From, x.To = 0, -1 })
	add(func(x *api.Prefix) { x.To = 100000 })
	add(func(x *api.Prefix) { x.From, x.To = 100000, 100000 })
	add(func(x *api.Prefix) { x.From = 21 })
	add(func(x *api.Prefix) { x.From = -1 << 63 })
	add(func(x *api.Prefix) { x.To = 1<<63 - 1 })
	return l
}

// A10: what makes a table valid.
func TestValidTable(t *testing.T) {
	edge := api.Prefix{Text: strings.Repeat("Z9", 8), Country: 65535, Zone: 99, Continent: 7, From: 0, To: 99999}
	least := api.Prefix{Text: "0", Country: 1, Zone: 1, Continent: 1, From: 99999, To: 99999}
	for i, l := range [][]api.Prefix{
		nil,
		{},
		exampleRows(),
		{edge, least},
		{whole("DL/W1AW", 1, 0, 0), whole("/", 1, 0, 0), whole("ABC/DL1ABCD/QRPP", 1, 0, 0), whole("9", 1, 0, 0), row("9", 1, 0, 0)},
		{row("DL", 1, 0, 9), row("DL", 2, 10, 20), whole("DL", 3, 5, 15), row("D", 4, 0, 99)},
		{row("DL", 1, 10, 20), row("DL", 1, 21, 30), row("DL", 1, 9, 9)},
		manyRows(400),
	} {
		if !air.ValidTable(l) {
			t.Error("not valid:", i)
		}
	}
	for i, x := range badRows() {
		if air.ValidTable([]api.Prefix{x}) || air.ValidTable([]api.Prefix{row("A", 1, 0, 9), x}) {
			t.Error("valid:", i, x)
		}
	}
	for i, l := range clashes() {
		if air.ValidTable(l) {
			t.Error("valid:", i)
		}
	}
	if air.ValidTable(manyRows(401)) {
		t.Error("too many rows")
	}
}

// clashes returns tables in which the rows 1 and 3 contradict each other, and no rows ahead of them do.
func clashes() [][]api.Prefix {
	a, b := row("A", 1, 0, 99), row("B", 1, 0, 99)
	return [][]api.Prefix{
		{a, row("DL", 1, 10, 20), b, row("DL", 2, 20, 30)},
		{a, row("DL", 1, 10, 20), b, row("DL", 2, 0, 10)},
		{a, row("DL", 1, 10, 20), b, row("DL", 2, 12, 15)},
		{a, row("DL", 1, 12, 15), b, row("DL", 2, 10, 20)},
		{a, row("DL", 1, 10, 20), b, row("DL", 1, 10, 20)},
		{a, whole("DL", 1, 10, 20), row("DL", 1, 10, 20), whole("DL", 1, 15, 15)},
		{a, row("DL", 1, 10, 20), row("DL", 1, 21, 30), row("DL", 1, 20, 20), row("DL", 1, 10, 20)},
		{a, row("DL", 1, 10, 20), b, row("DL", 1, 20, 20), a, b},
	}
}

// A11.
func TestOverlap(t *testing.T) {
	for n, l := range clashes()[:7] {
		if i, k, e := air.Overlap(l); i != 1 || k != 3 || e != api.OK {
			t.Error(n, i, k, e)
		}
	}
	if i, k, e := air.Overlap(clashes()[7]); i != 0 || k != 4 || e != api.OK {
		t.Error("the least index comes first", i, k, e)
	}
	if i, k, e := air.Overlap([]api.Prefix{row("A", 1, 0, 0), row("A", 1, 0, 0)}); i != 0 || k != 1 || e != api.OK {
		t.Error(i, k, e)
	}
	same := append(manyRows(399), row("DL", 1, 398, 398))
	if i, k, e := air.Overlap(same); i != 398 || k != 399 || e != api.OK {
		t.Error(i, k, e)
	}
	for n, l := range [][]api.Prefix{nil, {}, exampleRows(), manyRows(400), {row("DL", 1, 0, 9), row("DL", 1, 10, 10), whole("DL", 1, 0, 9)}} {
		if i, k, e := air.Overlap(l); i != 0 || k != 0 || e != api.ErrNone {
			t.Error(n, i, k, e)
		}
	}
	bad := [][]api.Prefix{manyRows(401), append(manyRows(400), row("DL", 1, 0, 9))}
	for _, x := range badRows() {
		bad = append(bad, []api.Prefix{x}, append(clashes()[0], x))
	}
	for n, l := range bad {
		if i, k, e := air.Overlap(l); i != 0 || k != 0 || e != api.ErrTable {
			t.Error(n, i, k, e)
		}
	}
}

// A15.
func TestTexts(t *testing.T) {
	l := append(exampleRows(), row("AB", 14, 0, 60), row("ZZ", 14, 60, 60), row("1A", 14, 60, 70), row("DL", 14, 100, 110),
		row("D1", 14, 0, 200), row("ZA", 65535, 0, 99999), row("ZB", 1, 99999, 99999), whole("AB", 14, 0, 60))
	for _, x := range []struct {
		country, day int
		want         []string
	}{
		{14, 60, []string{"1A", "AB", "D1", "DL", "ZZ"}},
		{14, 59, []string{"AB", "D1", "DL"}},
		{14, 61, []string{"1A", "D1", "DL"}},
		{14, 0, []string{"AB", "D1", "DL"}},
		{14, 105, []string{"D1", "DL"}},
		{14, 201, nil},
		{15, 49, nil},
		{15, 50, []string{"D"}},
		{15, 200, []string{"D"}},
		{16, 15, nil},
		{65535, 0, []string{"ZA"}},
		{1, 99999, []string{"ZB"}},
		{1, 99998, nil},
		{2, 60, nil},
	} {
		if s, e := air.Texts(l, x.country, x.day); !slices.Equal(s, x.want) || e != api.OK {
			t.Error(x, s, e)
		}
	}
	if s, e := air.Texts(nil, 1, 0); len(s) != 0 || e != api.OK {
		t.Error(s, e)
	}
	for _, x := range [][2]int{{0, 60}, {-1, 60}, {65536, 60}, {14, -1}, {14, 100000}, {0, -1}} {
		if s, e := air.Texts(l, x[0], x[1]); len(s) != 0 || e != api.ErrArg {
			t.Error(x, s, e)
		}
		if s, e := air.Texts(clashes()[0], x[0], x[1]); len(s) != 0 || e != api.ErrTable {
			t.Error(x, s, e)
		}
	}
	for _, x := range badRows() {
		if s, e := air.Texts([]api.Prefix{x}, 16, 15); len(s) != 0 || e != api.ErrTable {
			t.Error(x, s, e)
		}
	}
}

// anyRows returns n rows that are valid one by one, drawn from few texts and days so that many of them contradict each other.
func anyRows(r *rand.Rand, n int) []api.Prefix {
	words := []string{"D", "DL", "DL1", "DL1A", "W", "W1AW", "DL/W1AW"}
	var l []api.Prefix
	for range n {
		from := r.IntN(12)
		x := row(words[r.IntN(len(words))], r.IntN(3)+1, from, from+r.IntN(6))
		x.Whole = x.Text == "DL/W1AW" || r.IntN(4) == 0
		l = append(l, x)
	}
	return l
}

// contradict says of two rows, day by day, whether they contradict each other.
func contradict(x, y api.Prefix) bool {
	if x.Text != y.Text || x.Whole != y.Whole {
		return false
	}
	for day := x.From; day <= x.To; day++ {
		if y.From <= day && day <= y.To {
			return true
		}
	}
	return false
}

// P1.8: a table is valid if and only if Overlap finds nothing; what it finds are the first two.
func TestOverlapPromise(t *testing.T) {
	r := rand.New(rand.NewPCG(1, 8))
	for range 3000 {
		l := anyRows(r, r.IntN(8))
		kept := slices.Clone(l)
		wantI, wantK, want := 0, 0, api.ErrNone
	search:
		for i := range l {
			for k := i + 1; k < len(l); k++ {
				if contradict(l[i], l[k]) {
					wantI, wantK, want = i, k, api.OK
					break search
				}
			}
		}
		i, k, e := air.Overlap(l)
		if i != wantI || k != wantK || e != want || air.ValidTable(l) != (want == api.ErrNone) {
			t.Fatal(l, i, k, e)
		}
		if !slices.Equal(l, kept) {
			t.Fatal("rows are changed")
		}
	}
}

// validRows returns rows of anyRows that do not contradict each other.
func validRows(r *rand.Rand, n int) []api.Prefix {
	var l []api.Prefix
	for _, x := range anyRows(r, n) {
		if !slices.ContainsFunc(l, func(y api.Prefix) bool { return contradict(x, y) }) {
			l = append(l, x)
		}
	}
	return l
}

// P1.8: each part of a valid table is valid, in any order, and the order changes no place.
func TestOrderPromise(t *testing.T) {
	r := rand.New(rand.NewPCG(2, 8))
	for range 300 {
		l := validRows(r, 10)
		mixed := slices.Clone(l)
		r.Shuffle(len(mixed), func(i, k int) { mixed[i], mixed[k] = mixed[k], mixed[i] })
		if !air.ValidTable(mixed) || !air.ValidTable(mixed[r.IntN(len(mixed)+1):]) {
			t.Fatal("not valid:", l)
		}
		for _, call := range []string{"DL1A", "DL1AB", "W1AW", "DL/W1AW"} {
			for day := range 20 {
				p, e := air.PlaceOf(l, call, day)
				q, f := air.PlaceOf(mixed, call, day)
				s, g := air.Since(l, call, day)
				u, h := air.Since(mixed, call, day)
				if p != q || e != f || s != u || g != h {
					t.Fatal(l, call, day, p, e, q, f, s, g, u, h)
				}
			}
		}
	}
}
