package scores

import (
	"cmp"
	"maps"
	"slices"
	"strconv"
	"strings"

	"pileup/api"
	"pileup/readings"
	"pileup/rules"
)

// A seat is a line in a pair.
type seat struct {
	line api.Ref
	pair int
}

// A worth is what a book gives for a line in a pair: if it may count, its points, or the error of asking for them, its keys, and the text of the numbers that a line which repeats it has; if not, its penalty.
type worth struct {
	mayCount        bool
	points, penalty int
	gap             api.Errno
	keys            []api.Key
	repeat          string
}

// A tally is a desk with a book by which scores are counted, and the worths that are known. It does what the desk does.
type tally struct {
	*desk
	book   api.Book
	worths map[seat]*worth
}

// openTally returns the tally for a case and a book.
func openTally(c api.Case, b api.Book) (*tally, api.Errno) {
	if e, _ := readings.CheckCase(c); e != api.OK {
		return nil, e
	}
	if !rules.Valid(b) {
		return nil, api.ErrBook
	}
	d, e := openDesk(c)
	if e != api.OK {
		return nil, e
	}
	return &tally{d, b, map[seat]*worth{}}, api.OK
}

// textOf returns a text that no other numbers have.
func textOf(numbers []int) string {
	var s strings.Builder
	for _, n := range numbers {
		s.WriteString(strconv.Itoa(n))
		s.WriteString(" ")
	}
	return s.String()
}

// weigh returns the worth of a line in a pair.
func (t *tally) weigh(x seat) *worth {
	w := &worth{}
	switch t.status(x.line, x.pair) {
	case api.Credited, api.Unchecked:
		facts := t.facts(x.line, x.pair)
		w.mayCount = true
		w.points, w.gap = rules.Points(t.book, facts)
		w.keys, _ = rules.Keys(t.book, facts)
		numbers, _ := rules.Repeat(t.book, facts)
		w.repeat = textOf(numbers)
	case api.Busted, api.Refused:
		w.penalty, _ = rules.Penalty(t.book, t.facts(x.line, x.pair))
	}
	return w
}

// worth returns the worth of a line in a seating.
func (t *tally) worth(log, line int, s seating) *worth {
	x := seat{line: api.Ref{Log: log, Line: line}}
	x.pair = s.pairOf(x.line)
	w, known := t.worths[x]
	if !known {
		w = t.weigh(x)
		t.worths[x] = w
	}
	return w
}

// counted returns the lines of a log that count.
func (t *tally) counted(log int, s seating) []int {
	var l []int
	seen := map[string]bool{}
	for line := range t.Logs[log].Lines {
		w := t.worth(log, line, s)
		repeats := len(t.book.Repeats) > 0 && seen[w.repeat]
		if w.mayCount && !repeats {
			seen[w.repeat] = true
			l = append(l, line)
		}
	}
	return l
}

// keys returns the keys of lines of a log.
func (t *tally) keys(log int, lines []int, s seating) map[api.Key]bool {
	keys := map[api.Key]bool{}
	for _, line := range lines {
		for _, k := range t.worth(log, line, s).keys {
			keys[k] = true
		}
	}
	return keys
}

// score returns the score of a log.
func (t *tally) score(log int, s seating) (api.Score, api.Errno) {
	counted := t.counted(log, s)
	x := api.Score{Multipliers: len(t.keys(log, counted, s))}
	for _, line := range counted {
		w := t.worth(log, line, s)
		if w.gap != api.OK {
			return api.Score{}, w.gap
		}
		x.Points += w.points
	}
	for line := range t.Logs[log].Lines {
		x.Penalty += t.worth(log, line, s).penalty
	}
	x.Total = max(0, x.Points*max(1, x.Multipliers)-x.Penalty)
	return x, api.OK
}

// credited returns the score of a log with what is certain alone.
func (t *tally) credited(log int) (api.Score, api.Errno) {
	statuses, e := readings.Statuses(t.problem)
	if e != api.OK {
		return api.Score{}, e
	}
	return t.score(log, t.seat(those(statuses, api.Certain), those(statuses, api.Possible)))
}

// openLogs returns the tally for a case and a book, of which logs are looked at.
func openLogs(c api.Case, b api.Book, logs ...int) (*tally, api.Errno) {
	t, e := openTally(c, b)
	if e != api.OK {
		return nil, e
	}
	return t, t.checkLogs(logs...)
}

// openReading returns the tally for a case and a book, and the seating of a reading, in which logs are looked at.
func openReading(c api.Case, b api.Book, r []int, logs ...int) (*tally, seating, api.Errno) {
	t, e := openTally(c, b)
	if e != api.OK {
		return nil, nil, e
	}
	if e := cmp.Or(t.checkReading(r), t.checkLogs(logs...)); e != api.OK {
		return nil, nil, e
	}
	return t, t.seat(r, nil), api.OK
}

// Counted returns the lines of a log that count in a reading.
func Counted(c api.Case, b api.Book, log int, r []int) ([]int, api.Errno) {
	t, s, e := openReading(c, b, r, log)
	if e != api.OK {
		return nil, e
	}
	return t.counted(log, s), api.OK
}

// compareKeys orders keys by Clause, then Value.
func compareKeys(a, b api.Key) int {
	return cmp.Or(cmp.Compare(a.Clause, b.Clause), cmp.Compare(a.Value, b.Value))
}

// Keys returns the multipliers of a log in a reading.
func Keys(c api.Case, b api.Book, log int, r []int) ([]api.Key, api.Errno) {
	t, s, e := openReading(c, b, r, log)
	if e != api.OK {
		return nil, e
	}
	keys := t.keys(log, t.counted(log, s), s)
	return slices.SortedFunc(maps.Keys(keys), compareKeys), api.OK
}

// ScoreOf returns the score of a log in a reading.
func ScoreOf(c api.Case, b api.Book, log int, r []int) (api.Score, api.Errno) {
	t, s, e := openReading(c, b, r, log)
	if e != api.OK {
		return api.Score{}, e
	}
	return t.score(log, s)
}

// Credited returns the score of a log with what is certain alone.
func Credited(c api.Case, b api.Book, log int) (api.Score, api.Errno) {
	t, e := openLogs(c, b, log)
	if e != api.OK {
		return api.Score{}, e
	}
	return t.credited(log)
}
