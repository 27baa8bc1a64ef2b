package air

import (
	"slices"

	"pileup/api"
)

// A key is what two rows that contradict each other have in common.
type key struct {
	text  string
	whole bool
}

// A table is a valid table, with the indices of the rows of each key.
type table struct {
	rows []api.Prefix
	at   map[key][]int
}

// keyOf returns the key of a row.
func keyOf(x api.Prefix) key { return key{x.Text, x.Whole} }

// inForce reports whether a row is in force on a day.
func inForce(x api.Prefix, day int) bool { return within(day, x.From, x.To) }

// validText reports whether a text may stand in a row.
func validText(s string, whole bool) bool {
	known := func(r rune) bool { return isLetter(r) || isDigit(r) || whole && r == '/' }
	return within(len(s), 1, api.MaxCall) && count(s, known) == len(s)
}

// validRow reports whether a row is valid.
func validRow(x api.Prefix) bool {
	return validText(x.Text, x.Whole) && within(x.Country, 1, api.MaxID) && within(x.Zone, 1, api.MaxZone) &&
		within(x.Continent, 1, 7) && validDay(x.From) && validDay(x.To) && x.From <= x.To
}

// validRows reports whether there are not too many rows, and each of them is valid.
func validRows(l []api.Prefix) bool {
	return len(l) <= api.MaxPrefixes && !slices.ContainsFunc(l, func(x api.Prefix) bool { return !validRow(x) })
}

// byKey returns the indices of the rows of each key, increasing.
func byKey(l []api.Prefix) map[key][]int {
	at := make(map[key][]int, len(l))
	for i, x := range l {
		at[keyOf(x)] = append(at[keyOf(x)], i)
	}
	return at
}

// firstClash returns the first two rows that contradict each other, and whether there are any.
func firstClash(l []api.Prefix, at map[key][]int) (i, k int, found bool) {
	for i, x := range l {
		for _, k := range at[keyOf(x)] {
			if k > i && l[k].From <= x.To && x.From <= l[k].To {
				return i, k, true
			}
		}
	}
	return 0, 0, false
}

// openTable returns a table to look up in, and whether it is valid.
func openTable(l []api.Prefix) (table, bool) {
	if !validRows(l) {
		return table{}, false
	}
	t := table{l, byKey(l)}
	_, _, clash := firstClash(l, t.at)
	return t, !clash
}

// find returns the index of the row of a key that is in force on a day, and whether there is one.
func (t table) find(k key, day int) (int, bool) {
	for _, i := range t.at[k] {
		if inForce(t.rows[i], day) {
			return i, true
		}
	}
	return 0, false
}

// ValidTable reports whether a table is valid.
func ValidTable(l []api.Prefix) bool {
	_, ok := openTable(l)
	return ok
}

// Overlap returns the first two rows that contradict each other.
func Overlap(l []api.Prefix) (i, k int, e api.Errno) {
	if !validRows(l) {
		return 0, 0, api.ErrTable
	}
	i, k, found := firstClash(l, byKey(l))
	if !found {
		return 0, 0, api.ErrNone
	}
	return i, k, api.OK
}

// Texts returns the prefixes of a country on a day.
func Texts(l []api.Prefix, country, day int) ([]string, api.Errno) {
	if !ValidTable(l) {
		return nil, api.ErrTable
	}
	if !validDay(day) || !within(country, 1, api.MaxID) {
		return nil, api.ErrArg
	}
	var texts []string
	for _, x := range l {
		if !x.Whole && x.Country == country && inForce(x, day) {
			texts = append(texts, x.Text)
		}
	}
	slices.Sort(texts)
	return texts, api.OK
}
