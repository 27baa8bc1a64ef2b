package logs

import (
	"strings"

	"pileup/api"
)

// inserts are the texts that a repair can insert, by the stage for which they stand; none stands for CALL.
var inserts = [endStage]string{"", "CATEGORY 1", "POWER 1", "CLAIMED 0", "JUMPS", endText}

// stepCosts are the costs of the steps of repairs by their kinds.
var stepCosts = [...]int{api.MendKeep: 0, api.MendFold: 1, api.MendDrop: 4, api.MendInsert: 6}

// noWay is a cost above that of any repair: what remains cannot be mended.
const noWay = 1 << 30

// A point is where a repair stands: the index of the line whose step comes next, and the place in the mended text.
type point struct {
	at    int
	place place
}

// A move is a step of a repair, and the point to which it leads.
type move struct {
	step api.Mend
	to   point
}

// A mender looks for the best repair of a text, given what its lines say as they are, and folded.
type mender struct {
	kept, folded []item
	costs        map[point]int
}

// Fold returns a line of a text without differences of case and blanks.
func Fold(s string) string {
	var b strings.Builder
	gap := false
	// Byte by byte, as bytes that are no characters must stay as they are.
	for i := range len(s) {
		c := s[i]
		switch {
		case c == ' ' || c == '\t' || c == '\r':
			gap = true
			continue
		case 'a' <= c && c <= 'z':
			c -= 'a' - 'A'
		}
		if gap && b.Len() > 0 {
			b.WriteByte(' ')
		}
		gap = false
		b.WriteByte(c)
	}
	return b.String()
}

// repairLines returns the lines of a text that is to be repaired.
func repairLines(s string) ([]string, api.Errno) {
	if len(s) > api.MaxText {
		return nil, api.ErrLimit
	}
	var lines []string
	for text := range textLines(s) {
		lines = append(lines, text)
	}
	if len(lines) > api.MaxLines {
		return nil, api.ErrLimit
	}
	return lines, api.OK
}

// newMender reads the lines of a text.
func newMender(o api.Layout, lines []string) *mender {
	m := &mender{costs: map[point]int{}}
	// Only which header lines the texts are matters here, not their values.
	var header api.Log
	for _, text := range lines {
		m.kept = append(m.kept, readItem(o, text, &header))
		m.folded = append(m.folded, readItem(o, Fold(text), &header))
	}
	return m
}

// moves returns the moves from a point that can lead to a log, with rising kinds.
func (m *mender) moves(p point) []move {
	var l []move
	add := func(kind int, text string, to point) {
		l = append(l, move{api.Mend{Kind: kind, At: p.at, Text: text}, to})
	}
	if p.at < len(m.kept) {
		if to, ok := p.place.after(m.kept[p.at]); ok {
			add(api.MendKeep, "", point{p.at + 1, to})
		}
		if to, ok := p.place.after(m.folded[p.at]); ok {
			add(api.MendFold, "", point{p.at + 1, to})
		}
		add(api.MendDrop, "", point{p.at + 1, p.place})
	}
	if p.place.stage < endStage && inserts[p.place.stage] != "" {
		add(api.MendInsert, inserts[p.place.stage], point{p.at, place{stage: p.place.stage + 1}})
	}
	return l
}

// isEnd reports whether all lines have had their steps, and the mended text is that of a log.
func (m *mender) isEnd(p point) bool { return p.at == len(m.kept) && p.place.stage == endStage }

// cost returns the least cost of what remains at a point, or noWay.
func (m *mender) cost(p point) int {
	if c, ok := m.costs[p]; ok {
		return c
	}
	least := noWay
	if m.isEnd(p) {
		least = 0
	}
	for _, v := range m.moves(p) {
		least = min(least, m.costBy(v))
	}
	m.costs[p] = least
	return least
}

// costBy returns the least cost of what remains if a move comes next.
func (m *mender) costBy(v move) int { return stepCosts[v.step.Kind] + m.cost(v.to) }

// steps returns the first repair of the least cost; there must be one.
func (m *mender) steps() []api.Mend {
	var l []api.Mend
	for p := (point{}); !m.isEnd(p); {
		least := m.cost(p)
		for _, v := range m.moves(p) {
			// Moves come with rising kinds, so the first one that loses nothing is the best one.
			if m.costBy(v) == least {
				l = append(l, v.step)
				p = v.to
				break
			}
		}
	}
	return l
}

// Repair returns the log text to which a text can be mended at the least cost, the steps, and the cost.
func Repair(o api.Layout, s string) (string, []api.Mend, int, api.Errno) {
	lines, e := repairLines(s)
	if e != api.OK {
		return "", nil, 0, e
	}
	m := newMender(o, lines)
	cost := m.cost(point{})
	if cost >= noWay {
		return "", nil, 0, api.ErrRepair
	}
	steps := m.steps()
	text, e := Mended(s, steps)
	return text, steps, cost, e
}

// Mended carries out the steps of a repair.
func Mended(s string, l []api.Mend) (string, api.Errno) {
	lines, e := repairLines(s)
	if e != api.OK {
		return "", e
	}
	var b strings.Builder
	at := 0
	for _, step := range l {
		text, ok := mendedLine(lines, at, step)
		if !ok {
			return "", api.ErrRepair
		}
		if step.Kind != api.MendDrop {
			b.WriteString(text + "\n")
		}
		if step.Kind != api.MendInsert {
			at++
		}
	}
	if at < len(lines) {
		return "", api.ErrRepair
	}
	return b.String(), api.OK
}

// mendedLine returns the line that a step leads to, and whether it can be a step of a repair that stands at a line.
func mendedLine(lines []string, at int, step api.Mend) (string, bool) {
	if step.At != at {
		return "", false
	}
	if step.Kind == api.MendInsert {
		return step.Text, isInsert(step.Text)
	}
	if at == len(lines) || step.Text != "" {
		return "", false
	}
	switch step.Kind {
	case api.MendKeep:
		return lines[at], true
	case api.MendFold:
		return Fold(lines[at]), true
	}
	return "", step.Kind == api.MendDrop
}

// isInsert reports whether a repair can insert a text.
func isInsert(s string) bool {
	for _, text := range inserts {
		if text == s {
			return s != ""
		}
	}
	return false
}

// CheckRepair returns what steps cost that lead to a log.
func CheckRepair(o api.Layout, s string, l []api.Mend) (int, api.Errno) {
	text, e := Mended(s, l)
	if e != api.OK {
		return 0, e
	}
	if _, e, _ := Parse(o, text); e != api.OK {
		return 0, api.ErrRepair
	}
	cost := 0
	for _, step := range l {
		cost += stepCosts[step.Kind]
	}
	return cost, api.OK
}

// Least reports whether no repair costs less.
func Least(o api.Layout, s string, cost int) (bool, api.Errno) {
	lines, e := repairLines(s)
	if e != api.OK {
		return false, e
	}
	least := newMender(o, lines).cost(point{})
	return least >= noWay || least >= cost, api.OK
}
