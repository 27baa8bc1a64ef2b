package scores

import (
	"cmp"
	"slices"

	"pileup/api"
	"pileup/readings"
)

// An outcome is a joint reading, and what the logs that are looked at come to in it.
type outcome struct {
	reading []int
	scores  []api.Score
}

// each returns what is found for each of some logs, or the first error.
func each[T any](logs []int, find func(int) (T, api.Errno)) ([]T, api.Errno) {
	var found []T
	for _, log := range logs {
		x, e := find(log)
		if e != api.OK {
			return nil, e
		}
		found = append(found, x)
	}
	return found, api.OK
}

// A view is what the score of a log depends on in a joint reading: a text tells which of the log's pairs that are possible it has.
type view struct {
	log   int
	pairs string
}

// A survey is a tally that looks at joint readings: with the pairs of each log that are possible, and the scores that are known.
type survey struct {
	*tally
	possible [][]int
	known    map[view]api.Score
}

// openSurvey returns the survey for a tally.
func openSurvey(t *tally) *survey {
	v := &survey{t, make([][]int, len(t.Logs)), map[view]api.Score{}}
	statuses, _ := readings.Statuses(t.problem)
	for _, i := range those(statuses, api.Possible) {
		x := t.candidates[i]
		v.possible[x.A.Log] = append(v.possible[x.A.Log], i)
		v.possible[x.B.Log] = append(v.possible[x.B.Log], i)
	}
	return v
}

// score returns the score of a log in a joint reading.
func (v *survey) score(log int, s seating) (api.Score, api.Errno) {
	var pairs []int
	for _, i := range v.possible[log] {
		if s.pairOf(v.candidates[i].A) == i {
			pairs = append(pairs, i)
		}
	}
	at := view{log, textOf(pairs)}
	if x, known := v.known[at]; known {
		return x, api.OK
	}
	x, e := v.tally.score(log, s)
	if e == api.OK {
		v.known[at] = x
	}
	return x, e
}

// outcomes returns the outcomes of all joint readings, in order, for some logs; ErrLimit if the case is wide.
func (t *tally) outcomes(logs ...int) ([]outcome, api.Errno) {
	if _, e := t.countJoint(); e != api.OK {
		return nil, e
	}
	v := openSurvey(t)
	var l []outcome
	for r := range t.joint() {
		s := t.seat(r, nil)
		scores, e := each(logs, func(log int) (api.Score, api.Errno) { return v.score(log, s) })
		if e != api.OK {
			return nil, e
		}
		l = append(l, outcome{r, scores})
	}
	return l, api.OK
}

// ends returns the first outcomes with the least and the greatest total of one of the logs that are looked at.
func ends(l []outcome, at int) (least, most outcome) {
	compare := func(a, b outcome) int { return cmp.Compare(a.scores[at].Total, b.scores[at].Total) }
	return slices.MinFunc(l, compare), slices.MaxFunc(l, compare)
}

// endsOf returns the first outcomes of a case with the least and the greatest total of a log.
func endsOf(c api.Case, b api.Book, log int) (least, most outcome, e api.Errno) {
	t, e := openLogs(c, b, log)
	if e != api.OK {
		return outcome{}, outcome{}, e
	}
	l, e := t.outcomes(log)
	if e != api.OK {
		return outcome{}, outcome{}, e
	}
	least, most = ends(l, 0)
	return least, most, api.OK
}

// Bounds returns the least and the greatest score of a log.
func Bounds(c api.Case, b api.Book, log int) (least, most api.Score, e api.Errno) {
	x, y, e := endsOf(c, b, log)
	if e != api.OK {
		return api.Score{}, api.Score{}, e
	}
	return x.scores[0], y.scores[0], api.OK
}

// Lowest returns the first reading with the least score of a log.
func Lowest(c api.Case, b api.Book, log int) ([]int, api.Errno) {
	x, _, e := endsOf(c, b, log)
	return x.reading, e
}

// Highest returns the first reading with the greatest score of a log.
func Highest(c api.Case, b api.Book, log int) ([]int, api.Errno) {
	_, x, e := endsOf(c, b, log)
	return x.reading, e
}
