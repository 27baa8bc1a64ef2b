package scores_test

import (
	"math/rand/v2"
	"slices"
	"strconv"
	"testing"

	"pileup/api"
	"pileup/rules"
	"pileup/scores"
)

// rivals returns a case of three logs: each line of D1A may be a contact with a line of K1B or with one of K1C, at the same cost. With two minutes the pairs 0 and 2 are those with K1B, and 1 and 3 those with K1C.
func rivals(minutes ...int) api.Case {
	lines := func(call string) []api.Line {
		var l []api.Line
		for _, minute := range minutes {
			l = append(l, qso(minute, call, 1, 1))
		}
		return l
	}
	return caseOf(log("D1A", lines("K1D")...), log("K1B", lines("D1A")...), log("K1C", lines("D1A")...))
}

// S11: ranks that are shared, in readings that are least ones and others.
func TestRanks(t *testing.T) {
	four := caseOf(log("D1A", qso(5, "Z9A", 1, 1)), log("D1B", qso(5, "Z9A", 1, 1), qso(6, "Z9B", 2, 1)), log("D1C"), log("D1D", qso(5, "Z9A", 1, 1)))
	for i, x := range []struct {
		c    api.Case
		book string
		r    []int
		want []int
	}{
		{caseOf(), "", nil, nil}, {caseOf(log("D1A")), "", nil, []int{1}}, {four, "points: 0 = 0 => 1\n", nil, []int{2, 1, 4, 2}}, {four, "points: 0 = 0 => 0\n", nil, []int{1, 1, 1, 1}}, {four, "points: 0 = 0 => 0 - 1\n", nil, []int{1, 1, 1, 1}},
		{rivals(100), "points: 0 = 0 => 1\n", []int{0}, []int{1, 1, 3}}, {rivals(100), "points: 0 = 0 => 1\n", []int{1}, []int{1, 3, 1}}, {rivals(100), "points: 0 = 0 => 1\n", nil, []int{1, 2, 2}}, {rivals(100), "points: not status = 5 => 1\npoints: status = 5 => 0\n", nil, []int{1, 1, 1}},
		{rivals(100, 200), "points: 0 = 0 => 1\n", []int{0, 3}, []int{1, 2, 2}}, {rivals(100, 200), "points: 0 = 0 => hour\n", []int{0, 3}, []int{1, 3, 2}}, {rivals(100, 200), "points: 0 = 0 => hour\n", []int{3}, []int{1, 3, 2}},
	} {
		b := book(t, x.book)
		l, e := scores.Ranks(x.c, b, x.r)
		if !slices.Equal(l, x.want) || e != api.OK {
			t.Error(i, l, e, "want", x.want)
		}
		all, e := viewOf(t, x.c).scores(b, x.r)
		if !slices.Equal(ranks(all), x.want) || e != api.OK {
			t.Error(i, ranks(all), e, "want", x.want)
		}
	}
}

// S12, S14: ranks that hang on one contact, on two, or on none; in some the first pair is one that the log itself has no part in.
func TestHinge(t *testing.T) {
	rest := "points: mycountry = 1 => 0\n"
	for i, x := range []struct {
		c     api.Case
		book  string
		log   int
		span  api.Span
		hinge int
		e     api.Errno
	}{
		{rivals(100), "points: 0 = 0 => 1\n", 0, api.Span{Lo: 1, Hi: 1}, 0, api.ErrRank}, {rivals(100), "points: 0 = 0 => 1\n", 1, api.Span{Lo: 1, Hi: 3}, 0, api.OK}, {rivals(100), "points: 0 = 0 => 1\n", 2, api.Span{Lo: 1, Hi: 3}, 0, api.OK},
		// A log whose own total is sure: others may be ahead of it.
		{rivals(100), "points: mycountry = 1 => 2 - call\npoints: 0 = 0 => 5\n", 0, api.Span{Lo: 2, Hi: 2}, 0, api.ErrRank}, {rivals(100), "points: mycountry = 1 => 2\npoints: call = 1 and country = 1 => 0\n", 0, api.Span{Lo: 1, Hi: 1}, 0, api.ErrRank}, {rivals(100), "points: mycountry = 1 => 2\npoints: category = 2 => 3\npoints: 0 = 0 => 1\n", 0, api.Span{Lo: 1, Hi: 1}, 0, api.ErrRank},
		{second(rivals(100)), "points: mycountry = 1 => 2\npoints: category = 2 => 3\npoints: 0 = 0 => 1\n", 0, api.Span{Lo: 1, Hi: 2}, 0, api.OK},
		// Both contacts count the same: there are three ranks.
		{rivals(100, 200), "points: 0 = 0 => 1\n", 1, api.Span{Lo: 1, Hi: 3}, 0, api.ErrRank}, {rivals(100, 200), "points: 0 = 0 => 1\n", 0, api.Span{Lo: 1, Hi: 1}, 0, api.ErrRank}, {rivals(100, 200), "points: 0 = 0 => 1\n", 2, api.Span{Lo: 1, Hi: 3}, 0, api.ErrRank},
		// The later contact counts more, or the earlier one: it is on this one that the rank hangs.
		{rivals(100, 300), rest + "points: 0 = 0 => hour\n", 1, api.Span{Lo: 1, Hi: 2}, 2, api.OK}, {rivals(100, 300), rest + "points: 0 = 0 => hour\n", 2, api.Span{Lo: 1, Hi: 2}, 2, api.OK}, {rivals(100, 300), rest + "points: 0 = 0 => hour\n", 0, api.Span{Lo: 2, Hi: 3}, 0, api.ErrRank}, {rivals(100, 300), rest + "points: 0 = 0 => 9 - hour\n", 1, api.Span{Lo: 1, Hi: 2}, 0, api.OK},
		// Two ranks that both contacts decide together: none decides alone.
		{rivals(100, 200), rest + "points: 0 = 0 => 1\n", 1, api.Span{Lo: 1, Hi: 2}, 0, api.ErrRank},
		{meeting(), "points: 0 = 0 => 1\n", 1, api.Span{Lo: 1, Hi: 1}, 0, api.ErrRank}, {caseOf(log("D1A")), "", 0, api.Span{Lo: 1, Hi: 1}, 0, api.ErrRank},
	} {
		b := book(t, x.book)
		span, e := scores.RankSpan(x.c, b, x.log)
		pair, f := scores.Hinge(x.c, b, x.log)
		if span != x.span || e != api.OK || pair != x.hinge || f != x.e {
			t.Error(i, span, e, pair, f, "want", x.span, x.hinge, x.e)
		}
	}
}

// second returns a case whose log 1 has the Category 2.
func second(c api.Case) api.Case {
	c.Logs[1].Category = 2
	return c
}

// S13: logs that beat each other in all, in some or in no joint readings.
func TestBeats(t *testing.T) {
	for i, x := range []struct {
		book string
		want [3][3]int
	}{
		{"points: 0 = 0 => 1\n", [3][3]int{{3, 2, 2}, {3, 3, 2}, {3, 2, 3}}},
		{"points: mycountry = 1 => 2\npoints: 0 = 0 => 1\n", [3][3]int{{3, 1, 1}, {3, 3, 2}, {3, 2, 3}}},
		{"points: mycountry = 1 => 0\npoints: 0 = 0 => 1\n", [3][3]int{{3, 3, 3}, {2, 3, 2}, {2, 2, 3}}},
		{"points: 0 = 0 => 0\n", [3][3]int{{3, 3, 3}, {3, 3, 3}, {3, 3, 3}}},
		{"points: 0 = 0 => 0 - 1\n", [3][3]int{{3, 3, 3}, {3, 3, 3}, {3, 3, 3}}},
		{"points: 0 = 0 => call\n", [3][3]int{{3, 1, 1}, {3, 3, 2}, {3, 2, 3}}},
	} {
		c, b := rivals(100), book(t, x.book)
		for log := range c.Logs {
			for other := range c.Logs {
				if status, e := scores.Beats(c, b, log, other); status != x.want[log][other] || e != api.OK {
					t.Error(i, log, other, status, e, "want", x.want[log][other])
				}
			}
		}
	}
}

// Errors: gaps in one joint reading only, or of one log only, and one that only what is certain shows.
func TestGaps(t *testing.T) {
	const ok, gap = api.OK, api.ErrGap
	hidden := rivals(100)
	hidden.Logs[0].Lines = append(hidden.Logs[0].Lines, qso(200, "Z9Z", 2, 1))
	hidden.Logs[0].Lines[1].Num = 2
	for i, x := range []struct {
		c                                        api.Case
		book                                     string
		first, last, bounds, credited, all, sure [3]api.Errno
	}{
		{rivals(100), "points: 0 = 0 => 1\n", [3]api.Errno{}, [3]api.Errno{}, [3]api.Errno{}, [3]api.Errno{}, [3]api.Errno{}, [3]api.Errno{}},
		{rivals(100), "points: mycountry = 2 => 1\npoints: call = 2 => 1\n", [3]api.Errno{}, [3]api.Errno{gap}, [3]api.Errno{gap, ok, ok}, [3]api.Errno{}, [3]api.Errno{gap, gap, gap}, [3]api.Errno{gap, gap, gap}},
		{rivals(100), "points: mycountry = 2 => 1\npoints: call = 3 => 1\n", [3]api.Errno{gap}, [3]api.Errno{}, [3]api.Errno{gap, ok, ok}, [3]api.Errno{}, [3]api.Errno{gap, gap, gap}, [3]api.Errno{gap, gap, gap}},
		{rivals(100), "points: mycountry = 1 => 1\n", [3]api.Errno{ok, gap, ok}, [3]api.Errno{ok, ok, gap}, [3]api.Errno{ok, gap, gap}, [3]api.Errno{}, [3]api.Errno{gap, gap, gap}, [3]api.Errno{gap, gap, gap}},
		// The unchecked line repeats the open one in all joint readings, and counts only without it.
		{hidden, "points: hour = 1 => 1\nrepeat: mycountry\n", [3]api.Errno{}, [3]api.Errno{}, [3]api.Errno{}, [3]api.Errno{gap}, [3]api.Errno{}, [3]api.Errno{gap, gap, gap}},
	} {
		b := book(t, x.book)
		rows, e := scores.Table(x.c, b)
		if e != x.sure[0] || (len(rows) == 0) != (e == gap) {
			t.Error(i, rows, e)
		}
		for log := range x.c.Logs {
			_, first := scores.ScoreOf(x.c, b, log, []int{0})
			_, last := scores.ScoreOf(x.c, b, log, []int{1})
			_, _, bounds := scores.Bounds(x.c, b, log)
			_, credited := scores.Credited(x.c, b, log)
			_, all := scores.RankSpan(x.c, b, log)
			if first != x.first[log] || last != x.last[log] || bounds != x.bounds[log] || credited != x.credited[log] || all != x.all[log] {
				t.Error(i, log, first, last, bounds, credited, all)
			}
			if _, e := scores.Beats(x.c, b, log, (log+1)%3); e != max(x.bounds[log], x.bounds[(log+1)%3]) {
				t.Error(i, log, e)
			}
			if _, e := scores.Hinge(x.c, b, log); (e == gap) != (x.all[log] == gap) {
				t.Error(i, log, e)
			}
		}
		for k, want := range [...][3]api.Errno{x.first, x.last} {
			if _, e := scores.Ranks(x.c, b, []int{k}); e != max(want[0], want[1], want[2]) {
				t.Error(i, k, e)
			}
		}
	}
}

// S15: rows; none without logs.
func TestTable(t *testing.T) {
	if rows, e := scores.Table(caseOf(), api.Book{}); len(rows) > 0 || e != api.OK {
		t.Error(rows, e)
	}
	one := api.Score{Points: 1, Multipliers: 1, Total: 1}
	fined := api.Score{Penalty: 2}
	want := []api.Row{
		{Call: "D1A", Least: one, Most: one, BestRank: 1, WorstRank: 1},
		{Call: "K1B", Least: fined, Most: one, BestRank: 1, WorstRank: 3},
		{Call: "K1C", Least: fined, Most: one, BestRank: 1, WorstRank: 3},
	}
	b := book(t, "points: 0 = 0 => 1\nmultiplier: 0 = 0 => country\npenalty: 0 = 0 => 2\n")
	if rows, e := scores.Table(rivals(100), b); !slices.Equal(rows, want) || e != api.OK {
		t.Error(rows, e)
	}
	// With the contact decided all is sure.
	c := rivals(100)
	c.Force = []api.Duo{duo(0, 0, 2, 0)}
	want = []api.Row{
		{Call: "D1A", Credited: one, Least: one, Most: one, BestRank: 1, WorstRank: 1},
		{Call: "K1B", Credited: fined, Least: fined, Most: fined, BestRank: 3, WorstRank: 3},
		{Call: "K1C", Credited: one, Least: one, Most: one, BestRank: 1, WorstRank: 1},
	}
	if rows, e := scores.Table(c, b); !slices.Equal(rows, want) || e != api.OK {
		t.Error(rows, e)
	}
}

// P7.5, P0.6: of counting lines no two repeat, and each other one that might count repeats one of them; one more clause behind the others takes nothing away.
func TestCounting(t *testing.T) {
	r := rand.New(rand.NewPCG(7, 5))
	hidden, more := 0, 0
	for range 700 {
		c, b := someCase(r), someBook(t, r)
		reading := someReading(r, viewOf(t, c).p)
		text, e := rules.Print(b)
		again, f, _ := rules.Parse(text)
		longer := b
		longer.Points = append(slices.Clone(b.Points), book(t, "points: 0 = 0 => 77\n").Points...)
		wider := b
		wider.Multipliers = append(slices.Clone(b.Multipliers), book(t, "multiplier: band = 7 => hour\n").Multipliers...)
		if e+f != api.OK {
			t.Fatal(b, text, e, f)
		}
		for log, l := range c.Logs {
			counted, e := scores.Counted(c, b, log, reading)
			seen := map[string]bool{}
			for i := range l.Lines {
				text := repeatOf(t, c, b, reading, ref(log, i))
				status, f := scores.Status(c, reading, ref(log, i))
				counts, may := slices.Contains(counted, i), status == api.Credited || status == api.Unchecked
				free := len(b.Repeats) == 0 || !seen[text]
				if e+f != api.OK || counts != (may && free) {
					t.Fatal(c, b, reading, log, i, counted)
				}
				seen[text] = seen[text] || counts
				if may && !free {
					hidden++
				}
			}
			score, e := scores.ScoreOf(c, b, log, reading)
			same, f := scores.ScoreOf(c, again, log, reading)
			if score != same || e != f {
				t.Fatal(c, text, score, e, same, f)
			}
			if e != api.OK {
				continue
			}
			long, e := scores.ScoreOf(c, longer, log, reading)
			wide, f := scores.ScoreOf(c, wider, log, reading)
			if long != score || wide.Multipliers < score.Multipliers || wide.Points != score.Points || wide.Penalty != score.Penalty || e+f != api.OK {
				t.Fatal(c, b, score, long, e, wide, f)
			}
			if wide.Multipliers > score.Multipliers {
				more++
			}
		}
	}
	if hidden < 100 || more < 100 {
		t.Error(hidden, more)
	}
}

// repeatOf returns the numbers of a line's Repeats as a text.
func repeatOf(t *testing.T, c api.Case, b api.Book, r []int, x api.Ref) string {
	t.Helper()
	facts, e := scores.Facts(c, r, x)
	l, f := rules.Repeat(b, facts)
	if e+f != api.OK {
		t.Fatal(c, b, x, e, f)
	}
	text := ""
	for _, n := range l {
		text += strconv.Itoa(n) + ","
	}
	return text
}

// P7.3, P7.4: what Beats and Hinge tell is so for the spans of ranks.
func TestPromisesOfRanks(t *testing.T) {
	r := rand.New(rand.NewPCG(7, 3))
	certain, hinges := 0, 0
	for i := range 2000 {
		c, b := someCase(r), someBook(t, r)
		if n, e := scores.Joint(c); e != api.OK || n == 1 && i%8 > 0 {
			continue
		}
		rows, e := scores.Table(c, b)
		if e != api.OK {
			continue
		}
		for log, row := range rows {
			for other, next := range rows {
				status, e := scores.Beats(c, b, log, other)
				back, f := scores.Beats(c, b, other, log)
				if e+f != api.OK || status == api.Certain && (back != api.Denied || row.BestRank >= next.BestRank || row.WorstRank >= next.WorstRank) {
					t.Fatal(c, b, log, other, status, back, rows)
				}
				if status == api.Certain {
					certain++
				}
			}
			if _, e := scores.Hinge(c, b, log); e == api.OK {
				hinges++
				if row.BestRank == row.WorstRank {
					t.Fatal(c, b, log, rows)
				}
			}
		}
	}
	if certain < 100 || hinges < 40 {
		t.Error(certain, hinges)
	}
}
