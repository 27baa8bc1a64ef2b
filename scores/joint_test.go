package scores_test

import (
	"slices"
	"testing"

	"pileup/api"
	"pileup/scores"
)

// crossed returns two logs with so many lines each, for some minutes: all lines at a minute may be contacts with one another.
func crossed(counts ...[2]int) api.Case {
	var a, b []api.Line
	for i, n := range counts {
		a = append(a, slices.Repeat([]api.Line{qso(100*i, "K1B", 1, 1)}, n[0])...)
		b = append(b, slices.Repeat([]api.Line{qso(100*i, "D1A", 1, 1)}, n[1])...)
	}
	return caseOf(log("D1A", a...), log("K1B", b...))
}

// S6 to S8, S12: as many least readings as are compared, and more; problems that are large. What is certain can be told of all but the last ones.
func TestJoint(t *testing.T) {
	twice := slices.Repeat([][2]int{{1, 2}}, 20)
	b := book(t, "points: 0 = 0 => 1\n")
	for i, x := range []struct {
		c           api.Case
		want        int
		e, credited api.Errno
	}{
		{caseOf(), 1, api.OK, api.ErrArg}, {caseOf(log("D1A")), 1, api.OK, api.OK}, {meeting(), 1, api.OK, api.OK}, {crossed([2]int{1, 2}), 2, api.OK, api.OK}, {crossed([2]int{2, 2}), 2, api.OK, api.OK}, {crossed([2]int{6, 6}), 720, api.OK, api.OK}, {crossed([2]int{1, 300}), 300, api.OK, api.OK},
		{crossed([2]int{63, 1}, [2]int{1, 65}), 4095, api.OK, api.OK}, {crossed([2]int{64, 1}, [2]int{1, 64}), 4096, api.OK, api.OK}, {crossed([2]int{1, 17}, [2]int{241, 1}), 0, api.ErrLimit, api.OK},
		{crossed(twice[:11]...), 2048, api.OK, api.OK}, {crossed(twice[:12]...), 4096, api.OK, api.OK}, {crossed(twice[:13]...), 0, api.ErrLimit, api.OK}, {crossed(twice...), 0, api.ErrLimit, api.OK},
		{crossed(slices.Repeat([][2]int{{1, 4}}, 26)...), 0, api.ErrLimit, api.OK}, {crossed([2]int{7, 7}), 0, api.ErrLimit, api.ErrLimit}, {crossed([2]int{30, 30}), 0, api.ErrLimit, api.ErrLimit},
	} {
		n, e := scores.Joint(x.c)
		if n != x.want || e != x.e {
			t.Error(i, n, e, "want", x.want, x.e)
		}
		if _, e := scores.Credited(x.c, b, 0); e != x.credited {
			t.Error(i, e, "want", x.credited)
		}
		if len(x.c.Logs) == 0 {
			continue
		}
		_, _, e = scores.Bounds(x.c, b, 0)
		_, f := scores.RankSpan(x.c, b, 0)
		if e != x.e || f != x.e {
			t.Error(i, e, f, "want", x.e)
		}
		// A wide case still has readings, in which scores can be found.
		if _, e := scores.ScoreOf(x.c, b, 0, nil); e != api.OK {
			t.Error(i, e)
		}
		if l, e := scores.Ranks(x.c, b, nil); len(l) != len(x.c.Logs) || e != api.OK {
			t.Error(i, l, e)
		}
	}
}

// around returns two logs with so many lines each around some full hours: lines of an hour may be contacts with one another. Those of the second log begin a minute ahead of it, and stand a minute apart.
func around(counts ...[2]int) api.Case {
	var a, b []api.Line
	for i, n := range counts {
		hour := 60 * (i + 1)
		a = append(a, slices.Repeat([]api.Line{qso(hour, "K1B", 1, 1)}, n[0])...)
		for k := range n[1] {
			b = append(b, qso(hour-1+k, "D1A", 1, 1))
		}
	}
	return caseOf(log("D1A", a...), log("K1B", b...))
}

// S8 to S10: of several joint readings with the same total the first one is taken, be it the first one of all or not.
func TestFirstOfEqual(t *testing.T) {
	late, early := "points: hour = 1 => 9\npoints: 0 = 0 => 1\n", "points: hour = 0 => 9\npoints: 0 = 0 => 1\n"
	for i, x := range []struct {
		book            string
		log             int
		lowest, highest []int
	}{
		{late, 0, []int{0}, []int{0}}, {early, 0, []int{0}, []int{0}}, {late, 1, []int{0}, []int{1}}, {early, 1, []int{1}, []int{0}},
		{"points: 0 = 0 => 7\n", 1, []int{0}, []int{0}}, {"points: 0 = 0 => 0\npenalty: hour = 1 => 0 - 5\n", 1, []int{1}, []int{0}}, {"points: 0 = 0 => 0 - hour\n", 1, []int{0}, []int{0}},
	} {
		c, b := around([2]int{1, 3}), book(t, x.book)
		l, e := scores.Lowest(c, b, x.log)
		m, f := scores.Highest(c, b, x.log)
		if !slices.Equal(l, x.lowest) || !slices.Equal(m, x.highest) || e+f != api.OK {
			t.Error(i, l, e, m, f, "want", x.lowest, x.highest)
		}
	}
	// A reading comes ahead of those with which it begins.
	free := meeting()
	free.Contest.Lost = 0
	if l, e := scores.Lowest(free, book(t, "points: 0 = 0 => 0\n"), 0); !slices.Equal(l, []int{0}) || e != api.OK {
		t.Error(l, e)
	}
	// The total of K1B is least, or greatest, if it has just one of two contacts: the readings with the first one come ahead.
	c := rivals(100, 200)
	l, e := scores.Lowest(c, book(t, "points: 0 = 0 => 1\nmultiplier: 0 = 0 => hour\npenalty: 0 = 0 => 0 - 2\n"), 1)
	m, f := scores.Highest(c, book(t, "points: 0 = 0 => 3\npenalty: 0 = 0 => 0 - 2\nrepeat: call\n"), 1)
	if !slices.Equal(l, []int{0, 3}) || !slices.Equal(m, []int{0, 3}) || e+f != api.OK {
		t.Error(l, e, m, f)
	}
}

// P7.2: bounds over many joint readings, whose parts lie in between one another.
func TestManyBounds(t *testing.T) {
	c := around([2]int{2, 3}, [2]int{1, 2}, [2]int{3, 3}, [2]int{2, 1}, [2]int{1, 1})
	// One line of the first log is as good a contact with a third one: the pairs of parts no longer stand one after the other.
	c.Logs = append(c.Logs, log("K1C", qso(60, "D1A", 1, 1), qso(180, "D1A", 1, 1)))
	c.Logs[0].Lines[0].Call, c.Logs[0].Lines[3].Call, c.Logs[0].Lines[1].Call = "K1D", "K1D", "K1D"
	b := book(t, "points: mycountry = 1 => 5 * call\npoints: 0 = 0 => hour\nmultiplier: 0 = 0 => hour\nmultiplier: 0 = 0 => call\npenalty: 0 = 0 => 2\n")
	v := viewOf(t, c)
	if n, e := scores.Joint(c); n != len(v.joint) || n < 100 || e != api.OK {
		t.Fatal(n, e, len(v.joint))
	}
	var all [][]api.Score
	for _, r := range v.joint {
		l, e := v.scores(b, r)
		if e != api.OK {
			t.Fatal(e)
		}
		all = append(all, l)
	}
	holdJoint(v, b, all)
	rows, e := scores.Table(c, b)
	want, f := wantRows(v, b)
	if !slices.Equal(rows, want) || e+f != api.OK {
		t.Error(rows, e, "want", want, f)
	}
	holdRows(v, rows, all)
}
