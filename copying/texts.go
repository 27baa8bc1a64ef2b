package copying

import (
	"cmp"
	"slices"

	"pileup/api"
)

// none stands for no character in a step.
const none = -1

// A hearing is a text that was sent, and one that was heard for it in some medium.
type hearing struct {
	by          costs[key]
	sent, heard []key
}

// newHearing reads the arguments that most functions begin with.
func newHearing(mode int, s, h string) (hearing, api.Errno) {
	m, e := mediumOf(mode)
	if e != api.OK {
		return hearing{}, e
	}
	lists, e := readTexts(s, h)
	if e != api.OK {
		return hearing{}, e
	}
	return hearing{m, lists[0], lists[1]}, api.OK
}

// fill fills cells row by row with the table of two lists, and returns its last element.
func fill[T comparable](cells []int, s, h []T, by costs[T]) int {
	miss, extra := by.miss(), by.extra()
	above := len(h) + 1
	at := 0
	for i := range len(s) + 1 {
		for k := range len(h) + 1 {
			switch {
			case i == 0:
				cells[at] = k * extra
			case k == 0:
				cells[at] = i * miss
			default:
				swap := swapCost(by, s[i-1], h[k-1])
				cells[at] = min(cells[at-above-1]+swap, cells[at-above]+miss, cells[at-1]+extra)
			}
			at++
		}
	}
	return cells[at-1]
}

// cells returns the memory for the table.
func (x hearing) cells() []int {
	return make([]int, (len(x.sent)+1)*(len(x.heard)+1))
}

// cost returns the least cost of an alignment.
func (x hearing) cost() int { return fill(x.cells(), x.sent, x.heard, x.by) }

// table returns the table in rows, each of which has memory of its own.
func (x hearing) table() [][]int {
	cells := x.cells()
	fill(cells, x.sent, x.heard, x.by)
	var rows [][]int
	for row := range slices.Chunk(cells, len(x.heard)+1) {
		rows = append(rows, slices.Clone(row))
	}
	return rows
}

// turned returns a hearing of the same texts from their ends on.
func (x hearing) turned() hearing {
	x.sent, x.heard = slices.Clone(x.sent), slices.Clone(x.heard)
	slices.Reverse(x.sent)
	slices.Reverse(x.heard)
	return x
}

// A place is how many characters of the text sent and of the text heard lie behind.
type place struct{ s, h int }

// after returns the place behind a step.
func (p place) after(step api.Step) place {
	if step.S != none {
		p.s++
	}
	if step.H != none {
		p.h++
	}
	return p
}

// steps returns the steps that an alignment may have at a place, in the order of alignments.
func (x hearing) steps(p place) []api.Step {
	var l []api.Step
	sent, heard := p.s < len(x.sent), p.h < len(x.heard)
	if sent && heard {
		l = append(l, api.Step{S: p.s, H: p.h, Cost: swapCost(x.by, x.sent[p.s], x.heard[p.h])})
	}
	if sent {
		l = append(l, api.Step{S: p.s, H: none, Cost: x.by.miss()})
	}
	if heard {
		l = append(l, api.Step{S: none, H: p.h, Cost: x.by.extra()})
	}
	return l
}

// end returns the place behind both texts.
func (x hearing) end() place { return place{len(x.sent), len(x.heard)} }

// Cost returns the least cost of hearing a text for another one.
func Cost(mode int, s, h string) (int, api.Errno) {
	x, e := newHearing(mode, s, h)
	if e != api.OK {
		return 0, e
	}
	return x.cost(), api.OK
}

// Align returns the first alignment of least cost.
func Align(mode int, s, h string) ([]api.Step, api.Errno) {
	x, e := newHearing(mode, s, h)
	if e != api.OK {
		return nil, e
	}
	end := x.end()
	behind := x.turned().table()
	rest := func(p place) int { return behind[end.s-p.s][end.h-p.h] }
	var l []api.Step
	for p := (place{}); p != end; {
		for _, step := range x.steps(p) {
			// Steps come in the order of alignments, so the first one that loses nothing belongs to the first alignment.
			if step.Cost+rest(p.after(step)) == rest(p) {
				l = append(l, step)
				p = p.after(step)
				break
			}
		}
	}
	return l, api.OK
}

// CheckAlign returns what an alignment costs.
func CheckAlign(mode int, s, h string, l []api.Step) (int, api.Errno) {
	x, e := newHearing(mode, s, h)
	if e != api.OK {
		return 0, e
	}
	p, cost := place{}, 0
	for _, step := range l {
		if !slices.Contains(x.steps(p), step) {
			return 0, api.ErrAlign
		}
		p = p.after(step)
		cost += step.Cost
	}
	if p != x.end() {
		return 0, api.ErrAlign
	}
	return cost, api.OK
}

// Table returns the least costs of hearing the beginnings of a text for those of another one.
func Table(mode int, s, h string) ([][]int, api.Errno) {
	x, e := newHearing(mode, s, h)
	if e != api.OK {
		return nil, e
	}
	return x.table(), api.OK
}

// fits reports whether a table has an element for each place, none of which is too great or too small.
func (x hearing) fits(t [][]int) bool {
	if len(t) != len(x.sent)+1 {
		return false
	}
	for _, row := range t {
		if len(row) != len(x.heard)+1 {
			return false
		}
		for _, cost := range row {
			if !within(cost, -api.MaxCost, api.MaxCost) {
				return false
			}
		}
	}
	return true
}

// proves reports whether in a table no step leads to an element that is greater than the one ahead of it and what the step costs.
func (x hearing) proves(t [][]int) bool {
	for i, row := range t {
		for k, cost := range row {
			p := place{i, k}
			for _, step := range x.steps(p) {
				to := p.after(step)
				if t[to.s][to.h] > cost+step.Cost {
					return false
				}
			}
		}
	}
	return true
}

// CheckTable returns the lower bound of the cost that a table proves.
func CheckTable(mode int, s, h string, t [][]int) (int, api.Errno) {
	x, e := newHearing(mode, s, h)
	if e != api.OK {
		return 0, e
	}
	if !x.fits(t) || t[0][0] != 0 || !x.proves(t) {
		return 0, api.ErrAlign
	}
	end := x.end()
	return t[end.s][end.h], api.OK
}

// Nearest returns the indices of the texts for which a text is heard at a cost of at most most, by cost.
func Nearest(mode int, h string, l []string, most int) ([]int, api.Errno) {
	m, e := mediumOf(mode)
	if e != api.OK {
		return nil, e
	}
	if len(l) > api.MaxLines {
		return nil, api.ErrLimit
	}
	lists, e := readTexts(slices.Concat([]string{h}, l)...)
	if e != api.OK {
		return nil, e
	}
	var near, far []int
	for i, sent := range lists[1:] {
		far = append(far, hearing{m, sent, lists[0]}.cost())
		if far[i] <= most {
			near = append(near, i)
		}
	}
	slices.SortStableFunc(near, func(i, k int) int { return cmp.Compare(far[i], far[k]) })
	return near, api.OK
}
