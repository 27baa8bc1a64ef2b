package air

import (
	"slices"
	"sort"

	"pileup/api"
)

// A station is a call sign that is looked up in a table; stem is the part of it that rows without Whole are held against.
type station struct {
	table
	call, stem string
}

// lookUp returns a station; its errors are those that all functions with a table, a call sign and a day have in common.
func lookUp(l []api.Prefix, call string, day int) (station, api.Errno) {
	t, ok := openTable(l)
	if !ok {
		return station{}, api.ErrTable
	}
	p, e := Split(call)
	if e != api.OK {
		return station{}, e
	}
	if !validDay(day) {
		return station{}, api.ErrArg
	}
	stem := p.Area
	if stem == "" {
		stem = p.Prefix + p.Suffix
	}
	return station{t, call, stem}, api.OK
}

// row returns the index of the station's row on a day, and whether there is one.
func (s station) row(day int) (int, bool) {
	if i, ok := s.find(key{s.call, true}, day); ok {
		return i, true
	}
	for n := len(s.stem); n > 0; n-- {
		if i, ok := s.find(key{s.stem[:n], false}, day); ok {
			return i, true
		}
	}
	return 0, false
}

// place returns the station's place on a day, and whether there is one.
func (s station) place(day int) (api.Place, bool) {
	i, ok := s.row(day)
	if !ok {
		return api.Place{}, false
	}
	x := s.rows[i]
	return api.Place{Country: x.Country, Zone: x.Zone, Continent: x.Continent}, true
}

// turns returns the days on which a row begins, or is no longer, in force, in increasing order.
func (s station) turns() []int {
	var days []int
	for _, x := range s.rows {
		days = append(days, x.From, x.To+1)
	}
	slices.Sort(days)
	return slices.Compact(days)
}

// RowOf returns the index of the row of a call sign on a day.
func RowOf(l []api.Prefix, call string, day int) (int, api.Errno) {
	s, e := lookUp(l, call, day)
	if e != api.OK {
		return 0, e
	}
	i, ok := s.row(day)
	if !ok {
		return 0, api.ErrNone
	}
	return i, api.OK
}

// PlaceOf returns the place of a call sign on a day.
func PlaceOf(l []api.Prefix, call string, day int) (api.Place, api.Errno) {
	s, e := lookUp(l, call, day)
	if e != api.OK {
		return api.Place{}, e
	}
	p, ok := s.place(day)
	if !ok {
		return api.Place{}, api.ErrNone
	}
	return p, api.OK
}

// Since returns the days around a day on which a call sign has the same place.
func Since(l []api.Prefix, call string, day int) (api.Span, api.Errno) {
	s, e := lookUp(l, call, day)
	if e != api.OK {
		return api.Span{}, e
	}
	here, ok := s.place(day)
	if !ok {
		return api.Span{}, api.ErrNone
	}
	same := func(day int) bool {
		p, ok := s.place(day)
		return ok && p == here
	}
	// From one turn to the next one nothing changes, so that one day stands for all of them.
	// The station has a place on the day: a turn lies at or ahead of it, and behind it the last one, from which on no row is in force.
	turns := s.turns()
	next := sort.Search(len(turns), func(i int) bool { return turns[i] > day })
	first := next - 1
	for first > 0 && same(turns[first-1]) {
		first--
	}
	for same(turns[next]) {
		next++
	}
	return api.Span{Lo: turns[first], Hi: turns[next] - 1}, api.OK
}
