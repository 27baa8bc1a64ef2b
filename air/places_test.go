package air_test

import (
	"math/rand/v2"
	"slices"
	"strings"
	"testing"

	"pileup/air"
	"pileup/api"
)

// span is a short way to write a span.
func span(lo, hi int) api.Span { return api.Span{Lo: lo, Hi: hi} }

// A12 to A14: the examples of the chapter and the ends of their spans.
func TestPlaceExamples(t *testing.T) {
	l := exampleRows()
	places := []api.Place{{Country: 14, Zone: 14, Continent: 1}, {Country: 15, Zone: 15, Continent: 1}, {Country: 16, Zone: 16, Continent: 2}}
	for _, x := range []struct {
		call     string
		day, row int
		since    api.Span
	}{
		{"DL1A", 60, 0, span(0, 99)},
		{"DL1A", 0, 0, span(0, 99)},
		{"DL1A", 99, 0, span(0, 99)},
		{"DL1A", 100, 1, span(100, 200)},
		{"DL1A", 150, 1, span(100, 200)},
		{"DL1A", 200, 1, span(100, 200)},
		{"DL9X", 9, 0, span(0, 9)},
		{"DL9X", 10, 2, span(10, 20)},
		{"DL9X", 15, 2, span(10, 20)},
		{"DL9X", 20, 2, span(10, 20)},
		{"DL9X", 21, 0, span(21, 99)},
		{"DL9X", 30, 0, span(21, 99)},
		{"DL9X/P", 15, 0, span(0, 99)},
		{"DL/W1AW", 5, 0, span(0, 99)},
		{"DL/W1AW/P", 5, 0, span(0, 99)},
		{"D/W1AW", 60, 1, span(50, 200)},
		{"D2A", 50, 1, span(50, 200)},
		{"DL9XY", 15, 0, span(0, 99)},
	} {
		row, e := air.RowOf(l, x.call, x.day)
		p, f := air.PlaceOf(l, x.call, x.day)
		s, g := air.Since(l, x.call, x.day)
		if row != x.row || p != places[x.row] || s != x.since || e != api.OK || f != api.OK || g != api.OK {
			t.Error(x, row, p, s, e, f, g)
		}
	}
	for _, x := range []struct {
		call string
		day  int
	}{{"DL1A", 300}, {"DL1A", 201}, {"DL1A", 99999}, {"D2A", 49}, {"D2A", 0}, {"W1AW", 60}, {"W/DL1ABC", 60}, {"1D/DL1ABC", 60}} {
		checkNoPlace(t, l, x.call, x.day, api.ErrNone)
	}
	checkNoPlace(t, nil, "W1AW", 0, api.ErrNone)
}

// checkNoPlace checks that a call sign has no place on a day, for the same reason everywhere.
func checkNoPlace(t *testing.T, l []api.Prefix, call string, day int, want api.Errno) {
	t.Helper()
	row, e := air.RowOf(l, call, day)
	p, f := air.PlaceOf(l, call, day)
	s, g := air.Since(l, call, day)
	if row != 0 || p != (api.Place{}) || s != (api.Span{}) || e != want || f != want || g != want {
		t.Error(call, day, row, p, s, e, f, g, "want", want)
	}
}

// A12 to A14: errors, in the order that the chapter names.
func TestPlaceErrors(t *testing.T) {
	good := exampleRows()
	for _, day := range []int{-1, 100000, -1 << 63, 1<<63 - 1} {
		checkNoPlace(t, good, "DL1A", day, api.ErrArg)
		checkNoPlace(t, good, "W1AW", day, api.ErrArg)
		checkNoPlace(t, good, "X", day, api.ErrCall)
		checkNoPlace(t, manyRows(401), "X", day, api.ErrTable)
	}
	for _, s := range badCalls() {
		checkNoPlace(t, good, s, 60, api.ErrCall)
	}
	checkNoPlace(t, append(good, whole("DL", 1, 0, 0), whole("12", 1, 0, 99)), "12", 60, api.ErrCall)
	for _, l := range clashes() {
		checkNoPlace(t, l, "A1A", 60, api.ErrTable)
		checkNoPlace(t, l, "X", 60, api.ErrTable)
	}
	for _, x := range badRows() {
		checkNoPlace(t, []api.Prefix{x}, "DL9X", 15, api.ErrTable)
	}
	checkNoPlace(t, manyRows(401), "DL9X", 15, api.ErrTable)
}

// A12: which row of several it is.
func TestRowChoice(t *testing.T) {
	l := []api.Prefix{
		row("W", 1, 0, 9), row("W1", 2, 0, 9), row("W1AW", 3, 0, 4), row("W1AWX", 4, 0, 9), whole("W1AW", 5, 0, 2), whole("W1AW/4", 6, 0, 9),
		row("DL", 7, 0, 9), whole("DL/W1AW", 8, 3, 5), row("DL1", 9, 0, 9), row("4", 10, 0, 9), whole("DL", 11, 0, 9), row("DL0", 12, 0, 9),
	}
	for _, x := range []struct {
		call     string
		day, row int
	}{
		{"W1AW", 0, 4}, {"W1AW", 2, 4}, {"W1AW", 3, 2}, {"W1AW", 4, 2}, {"W1AW", 5, 1}, {"W1AW/P", 0, 2}, {"W1AW/4", 0, 5},
		{"W1AW/5", 5, 1}, {"W2AW", 0, 0}, {"W1AWX", 9, 3}, {"W1AWXY", 9, 3}, {"DL/W1AW", 2, 6}, {"DL/W1AW", 3, 7}, {"DL/W1AW", 5, 7},
		{"DL/W1AW", 6, 6}, {"DL/W1AW/P", 3, 6}, {"DL1/W1AW", 3, 8}, {"DL1AA", 3, 8}, {"DL2AA", 3, 6}, {"W/DL1AA", 3, 0}, {"4X1A", 3, 9}, {"4X/W1AW", 3, 9},
	} {
		if i, e := air.RowOf(l, x.call, x.day); i != x.row || e != api.OK {
			t.Error(x, i, e)
		}
		if p, e := air.PlaceOf(l, x.call, x.day); p.Country != x.row+1 || e != api.OK {
			t.Error(x, p, e)
		}
	}
}

// A13: the place has the country, the zone and the continent of the row.
func TestPlaceFields(t *testing.T) {
	l := []api.Prefix{{Text: "W", Country: 65535, Zone: 99, Continent: 7, From: 0, To: 99999}}
	want := api.Place{Country: 65535, Zone: 99, Continent: 7}
	for _, day := range []int{0, 1, 99999} {
		if p, e := air.PlaceOf(l, "W1AW", day); p != want || e != api.OK {
			t.Error(day, p, e)
		}
		if s, e := air.Since(l, "W1AW", day); s != span(0, 99999) || e != api.OK {
			t.Error(day, s, e)
		}
	}
}

// A14: days are of one place, whichever rows tell it.
func TestSinceAcrossRows(t *testing.T) {
	other := row("W1", 1, 30, 39)
	other.Continent = 2
	zone := row("W1", 1, 50, 59)
	zone.Zone = 9
	l := []api.Prefix{row("W1A", 1, 20, 29), row("W", 1, 0, 99999), row("W1", 1, 10, 25), other, whole("W1AW", 1, 5, 32), zone, row("W2", 3, 0, 99999), row("W1", 8, 99999, 99999)}
	for _, x := range []struct {
		call string
		day  int
		want api.Span
	}{
		{"W1AW", 0, span(0, 32)}, {"W1AW", 32, span(0, 32)}, {"W1AW", 33, span(33, 39)}, {"W1AW", 40, span(40, 49)}, {"W1AW", 55, span(50, 59)},
		{"W1AW", 60, span(60, 99998)}, {"W1AW", 99998, span(60, 99998)}, {"W1AW", 99999, span(99999, 99999)},
		{"W1AB", 7, span(0, 29)}, {"W1B", 7, span(0, 29)}, {"W1B", 30, span(30, 39)}, {"W3B", 7, span(0, 99999)}, {"W2B", 7, span(0, 99999)},
	} {
		if s, e := air.Since(l, x.call, x.day); s != x.want || e != api.OK {
			t.Error(x, s, e)
		}
	}
	gap := []api.Prefix{row("W", 1, 0, 9), row("W", 1, 11, 20), row("W", 1, 21, 30)}
	for day, want := range map[int]api.Span{9: span(0, 9), 11: span(11, 30), 25: span(11, 30)} {
		if s, e := air.Since(gap, "W1AW", day); s != want || e != api.OK {
			t.Error(day, s, e)
		}
	}
	checkNoPlace(t, gap, "W1AW", 10, api.ErrNone)
	checkNoPlace(t, gap, "W1AW", 31, api.ErrNone)
	if s, e := air.Since(manyRows(400), "DL1A", 399); s != span(399, 399) || e != api.OK {
		t.Error(s, e)
	}
}

// slowRow looks for the row of a call sign on a day, row by row as the chapter says.
func slowRow(l []api.Prefix, call string, day int) int {
	p, _ := air.Split(call)
	stem := p.Area
	if stem == "" {
		stem = p.Prefix + p.Suffix
	}
	best := -1
	for i, x := range l {
		switch {
		case day < x.From || day > x.To:
		case x.Whole && x.Text == call:
			return i
		case !x.Whole && strings.HasPrefix(stem, x.Text) && (best < 0 || len(x.Text) > len(l[best].Text)):
			best = i
		}
	}
	return best
}

// place returns the place of a row; none for -1.
func place(l []api.Prefix, i int) api.Place {
	if i < 0 {
		return api.Place{}
	}
	return api.Place{Country: l[i].Country, Zone: l[i].Zone, Continent: l[i].Continent}
}

// P1.5, P1.6: rows, places and spans held against a search through all rows, day by day.
func TestPlacePromises(t *testing.T) {
	r := rand.New(rand.NewPCG(3, 5))
	for range 400 {
		l := validRows(r, 12)
		kept := slices.Clone(l)
		for _, call := range []string{"DL1A", "DL1AB", "DL2A", "W1AW", "W1AW/4", "DL/W1AW", "DL/W1AW/P", "D/DL1A", "K1A"} {
			var places []api.Place
			for day := range 20 {
				want := slowRow(l, call, day)
				places = append(places, place(l, want))
				if want < 0 {
					checkNoPlace(t, l, call, day, api.ErrNone)
					continue
				}
				i, e := air.RowOf(l, call, day)
				p, f := air.PlaceOf(l, call, day)
				if i != want || p != places[day] || e != api.OK || f != api.OK {
					t.Fatal(l, call, day, i, p, e, f)
				}
			}
			checkSince(t, l, call, places)
		}
		if !slices.Equal(l, kept) {
			t.Fatal("rows are changed")
		}
	}
}

// checkSince holds the span of each day against the places of the days; there is no place behind them.
func checkSince(t *testing.T, l []api.Prefix, call string, places []api.Place) {
	for day, p := range places {
		if p == (api.Place{}) {
			continue
		}
		lo, hi := day, day
		for lo > 0 && places[lo-1] == p {
			lo--
		}
		for places[hi+1] == p {
			hi++
		}
		for d := lo; d <= hi; d++ {
			if s, e := air.Since(l, call, d); s != span(lo, hi) || e != api.OK {
				t.Fatal(l, call, d, s, e)
			}
		}
	}
}

// P1.5: rows that are not in force on the day, or whose Text nothing begins with, change nothing.
func TestAddedRows(t *testing.T) {
	r := rand.New(rand.NewPCG(5, 5))
	for range 200 {
		l := validRows(r, 8)
		for _, call := range []string{"DL1A", "W1AW", "DL/W1AW"} {
			for day := range 18 {
				more := slices.Clone(l)
				for _, x := range []api.Prefix{row("DL1", 9, day+1, day+9), whole(call, 9, day+1, day+1), row("DL2", 9, 0, 99), row("L", 9, 0, 99), whole("DL1", 9, 0, 99), whole("W1AW/P", 9, 0, 99)} {
					if !slices.ContainsFunc(more, func(y api.Prefix) bool { return contradict(x, y) }) {
						more = append(more, x)
					}
				}
				i, e := air.RowOf(l, call, day)
				k, f := air.RowOf(more, call, day)
				if i != k || e != f {
					t.Fatal(l, call, day, i, e, k, f)
				}
			}
		}
	}
}
