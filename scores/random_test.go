package scores_test

import (
	"math/rand/v2"
	"reflect"
	"slices"
	"testing"

	"pileup/api"
	"pileup/readings"
	"pileup/rules"
	"pileup/scores"
)

// pick returns one of some things.
func pick[T any](r *rand.Rand, l ...T) T { return l[r.IntN(len(l))] }

// someLines returns up to five lines in order of their minutes, most of which name a log.
func someLines(r *rand.Rand, calls []string) []api.Line {
	var l []api.Line
	for range r.IntN(6) {
		call := pick(r, "Z9Z", "KB", "K2A", "D1C")
		if r.IntN(5) > 0 {
			call = pick(r, calls...)
		}
		x := qso(pick(r, 100, 100, 100, 101, 102, 1439, 1440), call, 1, pick(r, 1, 1, 1, 2))
		x.Khz = pick(r, 1900, 1900, 1900, 1900, 1900, 1900, 3500, 1000)
		x.Got.Zone = pick(r, 14, 14, 14, 14, 15)
		l = append(l, x)
	}
	slices.SortStableFunc(l, func(a, b api.Line) int { return a.Minute - b.Minute })
	return l
}

// someCase returns a case of up to four logs.
func someCase(r *rand.Rand) api.Case {
	calls := []string{"D1A", "D1B", "K1A", "W1A"}[r.IntN(3):]
	c := caseOf()
	for _, call := range calls[:max(r.IntN(len(calls)+1), r.IntN(len(calls)+1))] {
		l := log(call, someLines(r, calls)...)
		l.Category, l.Power = 1+r.IntN(3), 100*(1+r.IntN(2))
		c.Logs = append(c.Logs, l)
	}
	c.Contest.Near, c.Contest.Pardon = 2*r.IntN(5), 2*r.IntN(3)
	c.Contest.Lost, c.Contest.Stranger = pick(r, 0, 2, 4, 6, 6, 6), pick(r, 0, 1, 3, 6, 6, 6)
	// The duos and the lines that judges decide on are chosen among the candidates.
	l, e := readings.Candidates(c)
	if e != api.OK || len(l) == 0 {
		return c
	}
	x := l[r.IntN(len(l))]
	switch r.IntN(4) {
	case 0:
		c.Struck = []api.Ref{x.A}
	case 1:
		c.Forbid = []api.Duo{{A: x.A, B: x.B}}
	case 2:
		c.Force = []api.Duo{{A: x.A, B: x.B}}
	}
	return c
}

// someBook returns a book of clauses that are chosen among a few.
func someBook(t *testing.T, r *rand.Rand) api.Book {
	text := ""
	for range r.IntN(3) {
		text += pick(r, "points: status = 1 => 3\n", "points: band = 7 => 2\n", "points: country = mycountry => 1\n", "points: 0 = 0 => 2 - call\n", "points: hour < 3 => gotzone\n")
	}
	text += pick(r, "", "points: 0 = 0 => 1\n", "points: 0 = 0 => hour - 1\n", "points: 0 = 0 => 2 * call\n", "points: not band = 0 => 10\n")
	for range r.IntN(3) {
		text += pick(r, "multiplier: 0 = 0 => country\n", "multiplier: status = 1 => zone\n", "multiplier: band = 7 => call\n", "multiplier: not country = mycountry => 0 - band\n", "multiplier: hour = 24 => continent\n")
	}
	for range r.IntN(3) {
		text += pick(r, "penalty: status = 2 => 3\n", "penalty: status = 4 => 1\n", "penalty: call = 0 => band - 8\n", "penalty: band = 0 => 20\n")
	}
	for range r.IntN(3) {
		text += pick(r, "repeat: band\n", "repeat: call\n", "repeat: country\n", "repeat: hour\n", "repeat: status\n", "repeat: 1\n")
	}
	return book(t, text)
}

// someReading returns a reading of a problem, which need not be a least one.
func someReading(r *rand.Rand, p api.Problem) []int {
	l := slices.Clone(p.Force)
	for _, i := range r.Perm(len(p.Pairs)) {
		next := append(slices.Clone(l), i)
		slices.Sort(next)
		if _, e := readings.Cost(p, next); e == api.OK && r.IntN(4) > 0 {
			l = next
		}
	}
	return l
}

// copyOfCase returns a case with memory of its own.
func copyOfCase(c api.Case) api.Case {
	c.Logs, c.Struck, c.Force, c.Forbid = slices.Clone(c.Logs), slices.Clone(c.Struck), slices.Clone(c.Force), slices.Clone(c.Forbid)
	c.Contest.Bands, c.Contest.Table = slices.Clone(c.Contest.Bands), slices.Clone(c.Contest.Table)
	for i, l := range c.Logs {
		c.Logs[i].Jumps, c.Logs[i].Lines = slices.Clone(l.Jumps), slices.Clone(l.Lines)
	}
	return c
}

// holdReading holds what is told of a reading against the words of the document, and returns whether it has a gap.
func holdReading(v view, b api.Book, r []int) bool {
	v.t.Helper()
	gap := false
	for log, l := range v.c.Logs {
		for i := range l.Lines {
			facts, e := scores.Facts(v.c, r, ref(log, i))
			status, f := scores.Status(v.c, r, ref(log, i))
			if !slices.Equal(facts, v.facts(r, ref(log, i))) || status != v.status(r, ref(log, i)) || e+f != api.OK {
				v.t.Fatal(v.c, r, log, i, facts, e, status, f)
			}
		}
		counted, e := scores.Counted(v.c, b, log, r)
		keys, f := scores.Keys(v.c, b, log, r)
		score, g := scores.ScoreOf(v.c, b, log, r)
		want, h := v.score(b, log, r)
		if !slices.Equal(counted, v.counted(b, log, r)) || !slices.Equal(keys, v.keys(b, log, r)) || score != want || e+f != api.OK || g != h {
			v.t.Fatal(v.c, b, r, log, counted, e, keys, f, score, g, "want", want, h)
		}
		gap = gap || h == api.ErrGap
	}
	all, e := scores.Ranks(v.c, b, r)
	want, f := v.scores(b, r)
	if !slices.Equal(all, ranks(want)) || e != f || gap != (e == api.ErrGap) {
		v.t.Fatal(v.c, b, r, all, e, want, f)
	}
	return gap
}

// S1 to S6, S11, P7.5, P0.6: random cases and books, in readings that are least ones and others.
func TestRandomReadings(t *testing.T) {
	r := rand.New(rand.NewPCG(7, 1))
	statuses, gaps, none := [7]int{}, 0, 0
	for range 700 {
		c, b := someCase(r), someBook(t, r)
		kept := copyOfCase(c)
		text, _ := rules.Print(b)
		v := viewOf(t, c)
		for _, l := range append(slices.Clone(v.joint[:min(len(v.joint), 2)]), someReading(r, v.p)) {
			if holdReading(v, b, l) {
				gaps++
			} else {
				none++
			}
		}
		for log, l := range c.Logs {
			score, e := scores.Credited(c, b, log)
			want, f := v.credited(b, log)
			if score != want || e != f {
				t.Fatal(c, b, log, score, e, "want", want, f)
			}
			for i := range l.Lines {
				statuses[v.status(v.joint[0], ref(log, i))]++
			}
		}
		if after, _ := rules.Print(b); !reflect.DeepEqual(c, kept) || text != after {
			t.Fatal(c, kept, text, after)
		}
	}
	for _, status := range []int{api.Credited, api.Busted, api.Refused, api.Unchecked, api.StruckOut} {
		if statuses[status] < 50 {
			t.Error(statuses)
		}
	}
	if gaps < 150 || none < 300 {
		t.Error(gaps, none)
	}
}

// holdJoint holds what is told of all joint readings against the words of the document.
func holdJoint(v view, b api.Book, all [][]api.Score) (hinges int) {
	v.t.Helper()
	var places [][]int
	for _, l := range all {
		places = append(places, ranks(l))
	}
	for log := range v.c.Logs {
		least, most, span := 0, 0, api.Span{Lo: places[0][log], Hi: places[0][log]}
		for i, l := range all {
			if l[log].Total < all[least][log].Total {
				least = i
			}
			if l[log].Total > all[most][log].Total {
				most = i
			}
			span.Lo, span.Hi = min(span.Lo, places[i][log]), max(span.Hi, places[i][log])
		}
		low, high, e := scores.Bounds(v.c, b, log)
		lowest, f := scores.Lowest(v.c, b, log)
		highest, g := scores.Highest(v.c, b, log)
		got, h := scores.RankSpan(v.c, b, log)
		if low != all[least][log] || high != all[most][log] || !slices.Equal(lowest, v.joint[least]) || !slices.Equal(highest, v.joint[most]) || got != span || e+f+g+h != api.OK {
			v.t.Fatal(v.c, b, log, low, high, e, lowest, f, highest, g, got, h, "want", all[least], all[most], span)
		}
		for other := range v.c.Logs {
			status, e := scores.Beats(v.c, b, log, other)
			if want := beats(all, log, other); status != want || e != api.OK {
				v.t.Fatal(v.c, b, log, other, status, e, "want", want)
			}
		}
		pair, e := scores.Hinge(v.c, b, log)
		want := hinge(v, places, log)
		if e == api.OK && pair != want || e != api.OK && (pair != 0 || e != api.ErrRank || want >= 0) {
			v.t.Fatal(v.c, b, log, pair, e, "want", want)
		}
		if e == api.OK {
			hinges++
		}
	}
	return hinges
}

// beats returns whether a log has the greater total in all, some or none of the joint readings.
func beats(all [][]api.Score, log, other int) int {
	n := 0
	for _, l := range all {
		if l[log].Total > l[other].Total {
			n++
		}
	}
	switch n {
	case len(all):
		return api.Certain
	case 0:
		return api.Denied
	}
	return api.Possible
}

// hinge returns the first pair on which the rank of a log hangs, or -1.
func hinge(v view, places [][]int, log int) int {
	for pair := range v.p.Pairs {
		with, without := map[int]bool{}, map[int]bool{}
		for i, r := range v.joint {
			if slices.Contains(r, pair) {
				with[places[i][log]] = true
			} else {
				without[places[i][log]] = true
			}
		}
		if len(with) != 1 || len(without) != 1 {
			continue
		}
		for rank := range with {
			if !without[rank] {
				return pair
			}
		}
	}
	return -1
}

// wantRows returns the rows of a table, from what the other functions tell.
func wantRows(v view, b api.Book) ([]api.Row, api.Errno) {
	v.t.Helper()
	var l []api.Row
	for i, x := range v.c.Logs {
		credited, e := v.credited(b, i)
		if e != api.OK {
			return nil, e
		}
		least, most, e := scores.Bounds(v.c, b, i)
		span, f := scores.RankSpan(v.c, b, i)
		if e+f != api.OK {
			v.t.Fatal(v.c, b, i, e, f)
		}
		l = append(l, api.Row{Call: x.Call, Credited: credited, Least: least, Most: most, BestRank: span.Lo, WorstRank: span.Hi})
	}
	return l, api.OK
}

// gapsIn returns for each log whether its points have a gap in some joint reading.
func gapsIn(v view, b api.Book) []bool {
	l := make([]bool, len(v.c.Logs))
	for log := range v.c.Logs {
		for _, r := range v.joint {
			_, e := v.score(b, log, r)
			l[log] = l[log] || e == api.ErrGap
		}
	}
	return l
}

// holdGaps holds the errors of a book with gaps against the logs that have them.
func holdGaps(v view, b api.Book, gaps []bool) {
	v.t.Helper()
	some := slices.Contains(gaps, true)
	for log, gap := range gaps {
		_, _, e := scores.Bounds(v.c, b, log)
		_, f := scores.Lowest(v.c, b, log)
		_, g := scores.Highest(v.c, b, log)
		_, h := scores.RankSpan(v.c, b, log)
		_, k := scores.Hinge(v.c, b, log)
		if (e == api.ErrGap) != gap || f != e || g != e || (h == api.ErrGap) != some || (k == api.ErrGap) != some {
			v.t.Fatal(v.c, b, log, gaps, e, f, g, h, k)
		}
		for other := range gaps {
			_, e := scores.Beats(v.c, b, log, other)
			if (e == api.ErrGap) != (gap || gaps[other]) {
				v.t.Fatal(v.c, b, log, other, gaps, e)
			}
		}
	}
}

// S7 to S15, P7.2 to P7.4, P7.6, P7.7, P0.5, P0.7: random cases and books over all joint readings, which are found one after the other.
func TestRandomJoint(t *testing.T) {
	r := rand.New(rand.NewPCG(7, 2))
	many, hinges, gaps, unsure, sure := 0, 0, 0, 0, 0
	for i := range 2500 {
		c, b := someCase(r), someBook(t, r)
		v := viewOf(t, c)
		if len(v.joint) == 1 && i%8 > 0 {
			continue
		}
		if n, e := scores.Joint(c); n != len(v.joint) || e != api.OK {
			t.Fatal(c, n, e, len(v.joint))
		}
		own := gapsIn(v, b)
		holdGaps(v, b, own)
		rows, e := scores.Table(c, b)
		if slices.Contains(own, true) {
			gaps++
			if len(rows) > 0 || e != api.ErrGap {
				t.Fatal(c, b, rows, e)
			}
			continue
		}
		var all [][]api.Score
		for _, l := range v.joint {
			x, _ := v.scores(b, l)
			all = append(all, x)
		}
		hinges += holdJoint(v, b, all)
		want, f := wantRows(v, b)
		if !slices.Equal(rows, want) || e != f {
			t.Fatal(c, b, rows, e, "want", want, f)
		}
		holdRows(v, rows, all)
		sure += holdSure(v)
		if len(all) > 1 && len(c.Logs) > 0 {
			many++
		}
		if slices.ContainsFunc(rows, func(x api.Row) bool { return x.BestRank < x.WorstRank }) {
			unsure++
		}
	}

	if many < 150 || hinges < 50 || gaps < 50 || unsure < 50 || sure < 100 {
		t.Error(many, hinges, gaps, unsure, sure)
	}
}

// holdSure holds the lines that are credited with what is certain alone against all joint readings, and returns how many there are.
func holdSure(v view) int {
	v.t.Helper()
	n := 0
	lines, e := readings.Lines(v.c)
	for i, l := range lines {
		for k, status := range l {
			if status != api.Credited {
				continue
			}
			n++
			for _, r := range v.joint {
				if status, f := scores.Status(v.c, r, ref(i, k)); status != api.Credited || e+f != api.OK {
					v.t.Fatal(v.c, i, k, r, status, f)
				}
			}
		}
	}
	return n
}

// holdRows holds rows against the promises: what they tell of totals and ranks is so in all joint readings.
func holdRows(v view, rows []api.Row, all [][]api.Score) {
	v.t.Helper()
	for i, x := range rows {
		if x.Least.Total > x.Most.Total || x.BestRank > x.WorstRank || len(all) == 1 && (x.Credited != x.Least || x.Least != x.Most) {
			v.t.Fatal(v.c, rows)
		}
		seen := map[int]bool{}
		for _, l := range all {
			rank := ranks(l)[i]
			seen[rank] = true
			if l[i].Total < x.Least.Total || l[i].Total > x.Most.Total || rank < x.BestRank || rank > x.WorstRank {
				v.t.Fatal(v.c, rows, l)
			}
		}
		if !seen[x.BestRank] || !seen[x.WorstRank] {
			v.t.Fatal(v.c, rows, all)
		}
	}
	for _, l := range all {
		for n := 1; n <= len(rows); n++ {
			within := 0
			for _, rank := range ranks(l) {
				if rank <= n {
					within++
				}
			}
			if within < n {
				v.t.Fatal(v.c, rows, l, n)
			}
		}
	}
}
