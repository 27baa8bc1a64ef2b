package conduct

import "slices"

// minutes returns the minutes on the air that two lines prove.
func (q *inquiry) minutes(i, k int) int {
	if delay := q.delay(i, k); delay.Hi < q.rules.Rest {
		return delay.Lo
	}
	return 0
}

// onAir returns the minutes on the air that lines prove, each with the next one.
func (q *inquiry) onAir(lines []int) int {
	sum := 0
	for i := 1; i < len(lines); i++ {
		sum += q.minutes(lines[i-1], lines[i])
	}
	return sum
}

func (b minutes) proved(lines []int) bool { return b.onAir(lines) > b.rules.Minutes }

// gains are the minutes that lines prove with those behind them: gains[i][j] is that of the line i with the line i + 1 + j. There are none for lines between which there may be a rest.
type gains [][]int

// gains returns the gains of some lines.
func (q *inquiry) gains(lines []int) gains {
	g := make(gains, len(lines))
	for i, from := range lines {
		for _, to := range lines[i+1:] {
			delay := q.delay(from, to)
			if delay.Hi >= q.rules.Rest {
				// Lines further behind are later still.
				break
			}
			g[i] = append(g[i], delay.Lo)
		}
	}
	return g
}

// of returns the minutes that the line i proves with the line k.
func (g gains) of(i, k int) int {
	if k-i-1 < len(g[i]) {
		return g[i][k-i-1]
	}
	return 0
}

// longer returns the most minutes that each line proves with those behind it, given the most that it proves with one line fewer.
func (g gains) longer(before []int) []int {
	after := slices.Clone(before)
	behind := 0
	for i := range slices.Backward(before) {
		after[i] = max(after[i], behind)
		for j, gain := range g[i] {
			after[i] = max(after[i], gain+before[i+1+j])
		}
		behind = max(behind, before[i])
	}
	return after
}

// first returns the indices of the first list of lines that prove more minutes than a number: rows are the most that each line proves with at most no line behind it, with at most one, and so on; so many that some line proves enough by the last row, and none by the others.
func (g gains) first(rows [][]int, minutes int) []int {
	var l []int
	// tell adds a line, and those behind it, as many more, that prove with it more than what is open.
	var tell func(at, more, open int)
	tell = func(at, more, open int) {
		l = append(l, at)
		if more == 0 {
			return
		}
		next := at + 1
		for g.of(at, next)+rows[more-1][next] <= open {
			next++
		}
		tell(next, more-1, open-g.of(at, next))
	}
	last := len(rows) - 1
	tell(slices.IndexFunc(rows[last], func(n int) bool { return n > minutes }), last, minutes)
	return l
}

func (b minutes) least(lines []int) ([]int, bool) {
	g := b.gains(lines)
	enough := func(n int) bool { return n > b.rules.Minutes }
	rows := [][]int{make([]int, len(lines))}
	for !slices.ContainsFunc(rows[len(rows)-1], enough) {
		last := rows[len(rows)-1]
		next := g.longer(last)
		if slices.Equal(next, last) {
			return nil, false
		}
		rows = append(rows, next)
	}
	var l []int
	for _, i := range g.first(rows, b.rules.Minutes) {
		l = append(l, lines[i])
	}
	return l, true
}
