package scores_test

import (
	"slices"
	"testing"

	"pileup/air"
	"pileup/api"
	"pileup/readings"
	"pileup/rules"
)

// ref and duo are short ways to write lines and two of them.
func ref(log, line int) api.Ref  { return api.Ref{Log: log, Line: line} }
func duo(a, j, b, k int) api.Duo { return api.Duo{A: ref(a, j), B: ref(b, k)} }

// contest returns a contest in which Data costs 2 a character, and clocks are right.
func contest() api.Contest {
	return api.Contest{
		Bands: []api.Band{{ID: 7, Lo: 1800, Hi: 2000}, {ID: 9, Lo: 3500, Hi: 3800}},
		Table: []api.Prefix{
			{Text: "D", Country: 1, Zone: 14, Continent: 1, From: 0, To: api.MaxDay},
			{Text: "K", Country: 2, Zone: 5, Continent: 2, From: 0, To: 10},
			{Text: "K", Country: 2, Zone: 4, Continent: 2, From: 12, To: api.MaxDay},
			{Text: "W1A", Country: 3, Zone: 40, Continent: 3, From: 11, To: 11, Whole: true},
			{Text: "W", Country: 2, Zone: 3, Continent: 2, From: 0, To: api.MaxDay},
		},
		Layout: api.Layout{Serial: true, Zone: true},
		Day:    10, Length: 5000,
		Window: 2,
		Near:   4, Pardon: 2,
		Lost: 6, Stranger: 3,
	}
}

// qso returns a line in Data at 1900 kHz.
func qso(minute int, call string, sent, got int) api.Line {
	return api.Line{Khz: 1900, Mode: api.Data, Minute: minute, Call: call, Sent: api.Exchange{Serial: sent, Zone: 14}, Got: api.Exchange{Serial: got, Zone: 14}}
}

// log returns a log with lines that are numbered from 1 on.
func log(call string, lines ...api.Line) api.Log {
	l := api.Log{Call: call, Category: 1, Power: 100, Lines: slices.Clone(lines)}
	for i := range l.Lines {
		l.Lines[i].Num = i + 1
	}
	return l
}

// caseOf returns a case of logs.
func caseOf(l ...api.Log) api.Case { return api.Case{Contest: contest(), Logs: l} }

// book reads a book.
func book(t *testing.T, text string) api.Book {
	t.Helper()
	b, e, at := rules.Parse(text)
	if e != api.OK {
		t.Fatal(text, e, at)
	}
	return b
}

// A view is a case with its problem, its candidates and its joint readings, of which scores are found by the words of the document.
type view struct {
	t     *testing.T
	c     api.Case
	p     api.Problem
	l     []api.Candidate
	joint [][]int
}

// maxSeen is how many joint readings a view has at most; one more is kept to tell that there are too many.
const maxSeen = 4096

// viewOf returns the view of a case; it has no joint readings if the problem is large.
func viewOf(t *testing.T, c api.Case) view {
	t.Helper()
	p, _, e := readings.Compile(c)
	l, f := readings.Candidates(c)
	if e+f != api.OK {
		t.Fatal(c, e, f)
	}
	v := view{t: t, c: c, p: p, l: l}
	r, e := readings.First(p)
	for e == api.OK && len(v.joint) <= maxSeen {
		v.joint = append(v.joint, r)
		r, e = readings.Next(p, r)
	}
	return v
}

// line returns a line.
func (v view) line(x api.Ref) api.Line { return v.c.Logs[x.Log].Lines[x.Line] }

// partner returns the other line of a line's pair in a reading, and what the own copy costs, if it is in one.
func (v view) partner(r []int, x api.Ref) (other api.Ref, copied int, has bool) {
	for _, i := range r {
		switch k := v.l[i]; x {
		case k.A:
			return k.B, k.Left, true
		case k.B:
			return k.A, k.Right, true
		}
	}
	return api.Ref{}, 0, false
}

// status returns the status of a line in a reading.
func (v view) status(r []int, x api.Ref) int {
	_, copied, has := v.partner(r, x)
	switch {
	case slices.Contains(v.c.Struck, x):
		return api.StruckOut
	case has && copied <= v.c.Contest.Pardon:
		return api.Credited
	case has:
		return api.Busted
	case slices.ContainsFunc(v.c.Logs, func(l api.Log) bool { return l.Call == v.line(x).Call }):
		return api.Refused
	}
	return api.Unchecked
}

// facts returns the facts of a line in a reading.
func (v view) facts(r []int, x api.Ref) []int {
	log, line := v.c.Logs[x.Log], v.line(x)
	place := func(call string) api.Place {
		p, e := air.PlaceOf(v.c.Contest.Table, call, v.c.Contest.Day+line.Minute/1440)
		if e != api.OK {
			return api.Place{}
		}
		return p
	}
	band := 0
	for _, b := range v.c.Contest.Bands {
		if b.Lo <= line.Khz && line.Khz <= b.Hi {
			band = b.ID
		}
	}
	mine, theirs, station := place(log.Call), place(line.Call), 0
	if other, _, has := v.partner(r, x); has {
		theirs, station = place(v.c.Logs[other.Log].Call), other.Log+1
	}
	return []int{band, line.Mode, line.Minute / 60, mine.Country, mine.Zone, mine.Continent, theirs.Country, theirs.Zone, theirs.Continent, station, line.Got.Zone, log.Category, log.Power, v.status(r, x)}
}

// counted returns the counting lines of a log in a reading; open lines do not count.
func (v view) counted(b api.Book, log int, r []int, open ...api.Ref) []int {
	v.t.Helper()
	var l []int
	var numbers [][]int
	for i := range v.c.Logs[log].Lines {
		x := ref(log, i)
		status := v.status(r, x)
		if slices.Contains(open, x) || status != api.Credited && status != api.Unchecked {
			continue
		}
		own, e := rules.Repeat(b, v.facts(r, x))
		if e != api.OK {
			v.t.Fatal(v.c, x, e)
		}
		if len(b.Repeats) > 0 && slices.ContainsFunc(numbers, func(o []int) bool { return slices.Equal(o, own) }) {
			continue
		}
		l, numbers = append(l, i), append(numbers, own)
	}
	return l
}

// keys returns the different keys of the counting lines of a log, in order.
func (v view) keys(b api.Book, log int, r []int, open ...api.Ref) []api.Key {
	v.t.Helper()
	var l []api.Key
	for _, i := range v.counted(b, log, r, open...) {
		own, e := rules.Keys(b, v.facts(r, ref(log, i)))
		if e != api.OK {
			v.t.Fatal(v.c, log, i, e)
		}
		l = append(l, own...)
	}
	slices.SortFunc(l, func(a, b api.Key) int { return 10000000*(a.Clause-b.Clause) + a.Value - b.Value })
	return slices.Compact(l)
}

// score returns the score of a log in a reading; open lines add nothing.
func (v view) score(b api.Book, log int, r []int, open ...api.Ref) (api.Score, api.Errno) {
	v.t.Helper()
	var x api.Score
	for _, i := range v.counted(b, log, r, open...) {
		n, e := rules.Points(b, v.facts(r, ref(log, i)))
		if e != api.OK {
			return api.Score{}, e
		}
		x.Points += n
	}
	x.Multipliers = len(v.keys(b, log, r, open...))
	for i := range v.c.Logs[log].Lines {
		status := v.status(r, ref(log, i))
		if slices.Contains(open, ref(log, i)) || status != api.Busted && status != api.Refused {
			continue
		}
		n, e := rules.Penalty(b, v.facts(r, ref(log, i)))
		if e != api.OK {
			v.t.Fatal(v.c, log, i, e)
		}
		x.Penalty += n
	}
	x.Total = x.Points
	if x.Multipliers > 1 {
		x.Total *= x.Multipliers
	}
	x.Total -= x.Penalty
	if x.Total < 0 {
		x.Total = 0
	}
	return x, api.OK
}

// credited returns the score of a log with what is certain alone; the statuses of lines are those of layer 5.
func (v view) credited(b api.Book, log int) (api.Score, api.Errno) {
	v.t.Helper()
	statuses, e := readings.Statuses(v.p)
	lines, f := readings.Lines(v.c)
	if e+f != api.OK {
		return api.Score{}, api.ErrLimit
	}
	var certain []int
	for i, status := range statuses {
		if status == api.Certain {
			certain = append(certain, i)
		}
	}
	var open []api.Ref
	for i, l := range lines {
		for j, status := range l {
			switch {
			case status == api.Open:
				open = append(open, ref(i, j))
			case status != v.status(certain, ref(i, j)):
				v.t.Fatal(v.c, i, j, status)
			}
		}
	}
	return v.score(b, log, certain, open...)
}

// scores returns the scores of all logs in a reading.
func (v view) scores(b api.Book, r []int) ([]api.Score, api.Errno) {
	v.t.Helper()
	var l []api.Score
	for log := range v.c.Logs {
		x, e := v.score(b, log, r)
		if e != api.OK {
			return nil, e
		}
		l = append(l, x)
	}
	return l, api.OK
}

// ranks returns the ranks of logs with scores.
func ranks(l []api.Score) []int {
	var all []int
	for _, x := range l {
		rank := 1
		for _, y := range l {
			if y.Total > x.Total {
				rank++
			}
		}
		all = append(all, rank)
	}
	return all
}
