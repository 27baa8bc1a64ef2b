package scores

import (
	"cmp"
	"slices"

	"pileup/api"
	"pileup/readings"
)

// A standing is the totals of all logs in a reading.
type standing []int

// standingOf returns the standing of logs with scores.
func standingOf(l []api.Score) standing {
	var s standing
	for _, x := range l {
		s = append(s, x.Total)
	}
	return s
}

// compare orders logs by their totals, the greatest one first.
func (s standing) compare(log, other int) int { return cmp.Compare(s[other], s[log]) }

// ranks returns the ranks of all logs.
func (s standing) ranks() []int {
	var order []int
	for log := range s {
		order = append(order, log)
	}
	slices.SortFunc(order, s.compare)
	ranks := make([]int, len(s))
	for i, log := range order {
		ranks[log] = i + 1
		if i > 0 && s.compare(order[i-1], log) == 0 {
			ranks[log] = ranks[order[i-1]]
		}
	}
	return ranks
}

// logs returns the indices of all logs.
func (d *desk) logs() []int {
	var l []int
	for log := range d.Logs {
		l = append(l, log)
	}
	return l
}

// ranksIn returns the ranks of all logs in each of the outcomes for these.
func ranksIn(l []outcome) [][]int {
	var all [][]int
	for _, x := range l {
		all = append(all, standingOf(x.scores).ranks())
	}
	return all
}

// spanOf returns the least and the greatest rank of a log in some outcomes.
func spanOf(ranks [][]int, log int) api.Span {
	span := api.Span{Lo: ranks[0][log], Hi: ranks[0][log]}
	for _, l := range ranks {
		span.Lo, span.Hi = min(span.Lo, l[log]), max(span.Hi, l[log])
	}
	return span
}

// hingesOn reports whether a log has one rank in all outcomes that have a pair, and another one in all that lack it. Some have it, and some lack it.
func hingesOn(pair int, l []outcome, ranks [][]int, log int) bool {
	var having, lacking [][]int
	for i, x := range l {
		if _, has := slices.BinarySearch(x.reading, pair); has {
			having = append(having, ranks[i])
		} else {
			lacking = append(lacking, ranks[i])
		}
	}
	with, without := spanOf(having, log), spanOf(lacking, log)
	return with.Lo == with.Hi && without.Lo == without.Hi && with != without
}

// row returns the row of a log.
func (t *tally) row(log int, l []outcome, ranks [][]int) (api.Row, api.Errno) {
	credited, e := t.credited(log)
	if e != api.OK {
		return api.Row{}, e
	}
	least, most := ends(l, log)
	span := spanOf(ranks, log)
	return api.Row{
		Call:      t.Logs[log].Call,
		Credited:  credited,
		Least:     least.scores[log],
		Most:      most.scores[log],
		BestRank:  span.Lo,
		WorstRank: span.Hi,
	}, api.OK
}

// Ranks returns the ranks of all logs in a reading.
func Ranks(c api.Case, b api.Book, r []int) ([]int, api.Errno) {
	t, s, e := openReading(c, b, r)
	if e != api.OK {
		return nil, e
	}
	scores, e := each(t.logs(), func(log int) (api.Score, api.Errno) { return t.score(log, s) })
	if e != api.OK {
		return nil, e
	}
	return standingOf(scores).ranks(), api.OK
}

// RankSpan returns the best and the worst rank of a log.
func RankSpan(c api.Case, b api.Book, log int) (api.Span, api.Errno) {
	t, e := openLogs(c, b, log)
	if e != api.OK {
		return api.Span{}, e
	}
	l, e := t.outcomes(t.logs()...)
	if e != api.OK {
		return api.Span{}, e
	}
	return spanOf(ranksIn(l), log), api.OK
}

// Beats reports whether a log has a greater total than another one.
func Beats(c api.Case, b api.Book, log, other int) (int, api.Errno) {
	t, e := openLogs(c, b, log, other)
	if e != api.OK {
		return 0, e
	}
	l, e := t.outcomes(log, other)
	if e != api.OK {
		return 0, e
	}
	n := 0
	for _, x := range l {
		if x.scores[0].Total > x.scores[1].Total {
			n++
		}
	}
	switch n {
	case 0:
		return api.Denied, api.OK
	case len(l):
		return api.Certain, api.OK
	}
	return api.Possible, api.OK
}

// Hinge returns the first pair on which the rank of a log hangs.
func Hinge(c api.Case, b api.Book, log int) (int, api.Errno) {
	t, e := openLogs(c, b, log)
	if e != api.OK {
		return 0, e
	}
	l, e := t.outcomes(t.logs()...)
	if e != api.OK {
		return 0, e
	}
	ranks := ranksIn(l)
	statuses, _ := readings.Statuses(t.problem)
	for _, pair := range those(statuses, api.Possible) {
		if hingesOn(pair, l, ranks, log) {
			return pair, api.OK
		}
	}
	return 0, api.ErrRank
}

// Table returns the table of results.
func Table(c api.Case, b api.Book) ([]api.Row, api.Errno) {
	t, e := openTally(c, b)
	if e != api.OK {
		return nil, e
	}
	l, e := t.outcomes(t.logs()...)
	if e != api.OK {
		return nil, e
	}
	ranks := ranksIn(l)
	return each(t.logs(), func(log int) (api.Row, api.Errno) { return t.row(log, l, ranks) })
}
