package scores_test

import (
	"slices"
	"testing"

	"pileup/api"
	"pileup/scores"
)

// busy returns a case whose log 0 has, in the reading of both pairs, the lines 0 and 1 credited (on two bands, with one station), 2 and 3 unchecked, 4 refused, 5 struck, and 6 unchecked on no band.
func busy() api.Case {
	on := func(khz int, x api.Line) api.Line {
		x.Khz = khz
		return x
	}
	c := caseOf(
		log("D1A", qso(100, "K1B", 1, 2), on(3500, qso(110, "K1B", 2, 3)), qso(120, "Z9Z", 3, 7), qso(130, "W1A", 4, 8), qso(140, "K1B", 5, 9), qso(150, "K1B", 6, 9), on(1000, qso(160, "W1Z", 7, 1))),
		log("K1B", qso(100, "D1A", 2, 1), on(3500, qso(110, "D1A", 3, 2))),
	)
	c.Struck = []api.Ref{ref(0, 5)}
	return c
}

// S3 to S5: the lines that count, their keys, and scores, by books that lack one part or the other.
func TestScoreOf(t *testing.T) {
	both := []int{0, 1}
	for i, x := range []struct {
		book    string
		r       []int
		counted []int
		keys    []api.Key
		want    api.Score
		e       api.Errno
	}{
		{"points: 0 = 0 => 3\n", both, []int{0, 1, 2, 3, 6}, nil, api.Score{Points: 15, Total: 15}, api.OK},
		{"points: 0 = 0 => 3\n", []int{0}, []int{0, 2, 3, 6}, nil, api.Score{Points: 12, Total: 12}, api.OK},
		{"points: 0 = 0 => 3\n", nil, []int{2, 3, 6}, nil, api.Score{Points: 9, Total: 9}, api.OK},
		// Repeats: the first one of equal lines counts.
		{"points: 0 = 0 => 3\nrepeat: call\n", both, []int{0, 2}, nil, api.Score{Points: 6, Total: 6}, api.OK}, {"points: 0 = 0 => 3\nrepeat: call\n", []int{1}, []int{1, 2}, nil, api.Score{Points: 6, Total: 6}, api.OK},
		{"points: 0 = 0 => 3\nrepeat: call\nrepeat: band\n", both, []int{0, 1, 2, 6}, nil, api.Score{Points: 12, Total: 12}, api.OK}, {"points: 0 = 0 => 3\nrepeat: band\nrepeat: call\n", both, []int{0, 1, 2, 6}, nil, api.Score{Points: 12, Total: 12}, api.OK}, {"points: 0 = 0 => 3\nrepeat: 7\n", both, []int{0}, nil, api.Score{Points: 3, Total: 3}, api.OK}, {"points: 0 = 0 => 3\nrepeat: 7\n", nil, []int{2}, nil, api.Score{Points: 3, Total: 3}, api.OK},
		// What is equal in all numbers repeats, not what is equal when they are added or written in a row.
		{"points: 0 = 0 => 3\nrepeat: if(band = 7, 1, 11)\nrepeat: if(band = 7, 11, 1)\n", both, []int{0, 1}, nil, api.Score{Points: 6, Total: 6}, api.OK},
		{"points: 0 = 0 => 3\nrepeat: 0 - band\n", both, []int{0, 1, 6}, nil, api.Score{Points: 9, Total: 9}, api.OK},
		// Lines that do not count hide no others: the struck one, and the refused one.
		{"points: 0 = 0 => 3\nrepeat: status\n", nil, []int{2}, nil, api.Score{Points: 3, Total: 3}, api.OK}, {"points: 0 = 0 => 3\nrepeat: status\n", both, []int{0, 2}, nil, api.Score{Points: 6, Total: 6}, api.OK}, {"points: 0 = 0 => 3\nrepeat: country\n", nil, []int{2, 3}, nil, api.Score{Points: 6, Total: 6}, api.OK},
		// Keys: equal ones of two lines are one, equal values of two clauses are two, and clauses that are not true give none.
		{"points: 0 = 0 => 3\nmultiplier: 0 = 0 => country\n", both, []int{0, 1, 2, 3, 6}, []api.Key{{Value: 0}, {Value: 2}}, api.Score{Points: 15, Multipliers: 2, Total: 30}, api.OK},
		{"points: 0 = 0 => 3\nmultiplier: band = 7 => country\nmultiplier: band = 9 => country\nmultiplier: band = 8 => country\n", both, []int{0, 1, 2, 3, 6}, []api.Key{{Value: 0}, {Value: 2}, {Clause: 1, Value: 2}}, api.Score{Points: 15, Multipliers: 3, Total: 45}, api.OK},
		{"points: 0 = 0 => 3\nmultiplier: 0 = 0 => 5\nmultiplier: 0 = 0 => 5\n", both, []int{0, 1, 2, 3, 6}, []api.Key{{Value: 5}, {Clause: 1, Value: 5}}, api.Score{Points: 15, Multipliers: 2, Total: 30}, api.OK},
		{"points: 0 = 0 => 3\nmultiplier: 0 = 0 => 0 - band\nmultiplier: band = 7 => call\n", both, []int{0, 1, 2, 3, 6}, []api.Key{{Value: -9}, {Value: -7}, {Value: 0}, {Clause: 1, Value: 0}, {Clause: 1, Value: 2}}, api.Score{Points: 15, Multipliers: 5, Total: 75}, api.OK},
		{"points: 0 = 0 => 3\nmultiplier: 0 = 0 => 1\n", both, []int{0, 1, 2, 3, 6}, []api.Key{{Value: 1}}, api.Score{Points: 15, Multipliers: 1, Total: 15}, api.OK}, {"points: 0 = 0 => 3\nmultiplier: 0 = 1 => 1\n", both, []int{0, 1, 2, 3, 6}, nil, api.Score{Points: 15, Total: 15}, api.OK},
		{"points: 0 = 0 => 3\nrepeat: call\nmultiplier: 0 = 0 => band\n", both, []int{0, 2}, []api.Key{{Value: 7}}, api.Score{Points: 6, Multipliers: 1, Total: 6}, api.OK},
		// Penalties: only what is busted or refused costs any, by the first clause that is true.
		{"points: 0 = 0 => 3\npenalty: 0 = 0 => 4\n", both, []int{0, 1, 2, 3, 6}, nil, api.Score{Points: 15, Penalty: 4, Total: 11}, api.OK}, {"points: 0 = 0 => 3\npenalty: 0 = 0 => 4\n", []int{0}, []int{0, 2, 3, 6}, nil, api.Score{Points: 12, Penalty: 8, Total: 4}, api.OK},
		{"points: 0 = 0 => 3\npenalty: 0 = 0 => 4\n", nil, []int{2, 3, 6}, nil, api.Score{Points: 9, Penalty: 12, Total: 0}, api.OK}, {"points: 0 = 0 => 3\npenalty: 0 = 0 => 3\n", nil, []int{2, 3, 6}, nil, api.Score{Points: 9, Penalty: 9, Total: 0}, api.OK}, {"points: 0 = 0 => 0\npenalty: 0 = 0 => 0 - 4\n", nil, []int{2, 3, 6}, nil, api.Score{Penalty: -12, Total: 12}, api.OK},
		{"points: 0 = 0 => 3\npenalty: band = 9 => 1\npenalty: 0 = 0 => 4\npenalty: 0 = 0 => 100\n", nil, []int{2, 3, 6}, nil, api.Score{Points: 9, Penalty: 9, Total: 0}, api.OK}, {"points: 0 = 0 => 3\npenalty: status = 1 => 50\npenalty: status = 5 => 50\npenalty: status = 6 => 50\n", both, []int{0, 1, 2, 3, 6}, nil, api.Score{Points: 15, Total: 15}, api.OK},
		{"points: 0 = 0 => 3\nmultiplier: 0 = 0 => hour\nmultiplier: 0 = 0 => band\npenalty: 0 = 0 => 4\n", both, []int{0, 1, 2, 3, 6}, []api.Key{{Value: 1}, {Value: 2}, {Clause: 1, Value: 0}, {Clause: 1, Value: 7}, {Clause: 1, Value: 9}}, api.Score{Points: 15, Multipliers: 5, Penalty: 4, Total: 71}, api.OK},
		// Points of less than 0, and sums above all numbers that are held.
		{"points: 0 = 0 => 0 - 3\n", both, []int{0, 1, 2, 3, 6}, nil, api.Score{Points: -15}, api.OK}, {"points: 0 = 0 => 1000000\nmultiplier: 0 = 0 => band\nmultiplier: 0 = 0 => hour\n", both, []int{0, 1, 2, 3, 6}, []api.Key{{Value: 0}, {Value: 7}, {Value: 9}, {Clause: 1, Value: 1}, {Clause: 1, Value: 2}}, api.Score{Points: 5000000, Multipliers: 5, Total: 25000000}, api.OK},
		{"points: status = 1 => 2\npoints: status = 5 => 1\npoints: 0 = 0 => 1000\n", both, []int{0, 1, 2, 3, 6}, nil, api.Score{Points: 7, Total: 7}, api.OK},
		// Gaps: of lines that count, and of others, which are not asked.
		{"", both, []int{0, 1, 2, 3, 6}, nil, api.Score{}, api.ErrGap}, {"points: status = 1 => 2\n", both, []int{0, 1, 2, 3, 6}, nil, api.Score{}, api.ErrGap}, {"points: not band = 0 => 2\n", both, []int{0, 1, 2, 3, 6}, nil, api.Score{}, api.ErrGap}, {"points: band = 7 => 2\nrepeat: 1\n", both, []int{0}, nil, api.Score{Points: 2, Total: 2}, api.OK}, {"points: status = 5 => 2\n", nil, []int{2, 3, 6}, nil, api.Score{Points: 6, Total: 6}, api.OK}, {"points: status = 5 => 2\n", []int{1}, []int{1, 2, 3, 6}, nil, api.Score{}, api.ErrGap},
	} {
		c, b := busy(), book(t, x.book)
		counted, e := scores.Counted(c, b, 0, x.r)
		keys, f := scores.Keys(c, b, 0, x.r)
		score, g := scores.ScoreOf(c, b, 0, x.r)
		if !slices.Equal(counted, x.counted) || !slices.Equal(keys, x.keys) || score != x.want || e+f != api.OK || g != x.e {
			t.Error(i, counted, e, keys, f, score, g, "want", x.counted, x.keys, x.want, x.e)
		}
		v := viewOf(t, c)
		want, g := v.score(b, 0, x.r)
		if !slices.Equal(v.counted(b, 0, x.r), x.counted) || !slices.Equal(v.keys(b, 0, x.r), x.keys) || want != x.want || g != x.e {
			t.Error(i, v.counted(b, 0, x.r), v.keys(b, 0, x.r), want, g)
		}
	}
}

// S3 to S6: logs without lines, and books without clauses where no line counts.
func TestNoLines(t *testing.T) {
	c := caseOf(log("D1A"), log("K1B", qso(5, "D1A", 1, 1)), log("W1A", qso(5, "K1B", 1, 1)))
	c.Struck = []api.Ref{ref(2, 0)}
	for log := range c.Logs {
		counted, e := scores.Counted(c, api.Book{}, log, nil)
		keys, f := scores.Keys(c, api.Book{}, log, nil)
		score, g := scores.ScoreOf(c, api.Book{}, log, nil)
		credited, h := scores.Credited(c, api.Book{}, log)
		if len(counted)+len(keys) > 0 || score != (api.Score{}) || credited != (api.Score{}) || e+f+g+h != api.OK {
			t.Error(log, counted, e, keys, f, score, g, credited, h)
		}
	}
}

// unsure returns a case whose log 0 has a certain contact with K1B, then a line that may be a contact with one of two of its lines, a line that was busted, and an unchecked one.
func unsure() api.Case {
	c := caseOf(
		log("D1A", qso(100, "K1B", 1, 1), qso(200, "K1B", 2, 2), qso(300, "K2C", 3, 3), qso(400, "Z9Z", 4, 4)),
		log("K1B", qso(100, "D1A", 1, 1), qso(200, "D1A", 2, 2), qso(200, "D1A", 2, 2), qso(300, "D1A", 3, 3)),
	)
	c.Contest.Stranger = 5
	return c
}

// S6: what is open adds nothing, neither points nor penalties, and hides no line that repeats it.
func TestCredited(t *testing.T) {
	for i, x := range []struct {
		book string
		log  int
		want api.Score
		e    api.Errno
	}{
		{"points: 0 = 0 => 3\n", 0, api.Score{Points: 6, Total: 6}, api.OK}, {"points: 0 = 0 => 3\n", 1, api.Score{Points: 6, Total: 6}, api.OK},
		{"points: 0 = 0 => 3\npenalty: 0 = 0 => 1\n", 0, api.Score{Points: 6, Penalty: 1, Total: 5}, api.OK}, {"points: 0 = 0 => 3\npenalty: 0 = 0 => 1\n", 1, api.Score{Points: 6, Total: 6}, api.OK},
		{"points: 0 = 0 => 3\nmultiplier: 0 = 0 => hour\n", 0, api.Score{Points: 6, Multipliers: 2, Total: 12}, api.OK}, {"points: 0 = 0 => 3\nmultiplier: 0 = 0 => status\n", 1, api.Score{Points: 6, Multipliers: 1, Total: 6}, api.OK},
		{"points: hour = 1 => 3\npoints: hour = 6 => 4\n", 0, api.Score{Points: 7, Total: 7}, api.OK}, {"points: hour = 1 => 3\npoints: hour = 3 => 4\n", 0, api.Score{}, api.ErrGap}, {"", 0, api.Score{}, api.ErrGap},
		{"points: 0 = 0 => hour\nrepeat: if(hour = 1, 1, 2)\n", 0, api.Score{Points: 7, Total: 7}, api.OK}, {"points: 0 = 0 => hour\nrepeat: if(hour = 1, 1, 2)\n", 1, api.Score{Points: 6, Total: 6}, api.OK}, {"points: 0 = 0 => hour\nrepeat: 1\n", 0, api.Score{Points: 1, Total: 1}, api.OK},
	} {
		c, b := unsure(), book(t, x.book)
		score, e := scores.Credited(c, b, x.log)
		if score != x.want || e != x.e {
			t.Error(i, score, e, "want", x.want, x.e)
		}
		if want, e := viewOf(t, c).credited(b, x.log); want != x.want || e != x.e {
			t.Error(i, want, e, "want", x.want, x.e)
		}
	}
}
