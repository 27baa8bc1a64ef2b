package scores_test

import (
	"slices"
	"testing"

	"pileup/api"
	"pileup/scores"
)

// example returns the case of the document's example, and its book.
func example(t *testing.T) (api.Case, api.Book) {
	t.Helper()
	one := func(minute int, call string) api.Line {
		return api.Line{Num: 1, Khz: 14010, Mode: api.Morse, Minute: minute, Call: call, Sent: api.Exchange{Serial: 1}, Got: api.Exchange{Serial: 1}}
	}
	c := api.Case{
		Contest: api.Contest{
			Bands: []api.Band{{ID: 1, Lo: 14000, Hi: 14350}},
			Table: []api.Prefix{
				{Text: "D", Country: 1, Zone: 14, Continent: 1, To: api.MaxDay},
				{Text: "W", Country: 2, Zone: 5, Continent: 2, To: api.MaxDay},
			},
			Layout: api.Layout{Serial: true}, Length: 1440,
			Window: 2, Near: 4, Lost: 10, Stranger: 3,
		},
		Logs: []api.Log{
			{Call: "DL1A", Category: 1, Power: 100, Lines: []api.Line{one(60, "W1B")}},
			{Call: "W1B", Category: 1, Power: 100, Lines: []api.Line{one(61, "DL1A")}},
		},
	}
	return c, book(t, "points: 0 = 0 => 2\nmultiplier: 0 = 0 => country\n")
}

// Examples: those of the document.
func TestExamples(t *testing.T) {
	c, b := example(t)
	if status, e := scores.Status(c, []int{0}, ref(0, 0)); status != api.Credited || e != api.OK {
		t.Error(status, e)
	}
	if status, e := scores.Status(c, nil, ref(0, 0)); status != api.Refused || e != api.OK {
		t.Error(status, e)
	}
	if l, e := scores.Facts(c, []int{0}, ref(0, 0)); !slices.Equal(l, []int{1, 1, 1, 1, 14, 1, 2, 5, 2, 2, 0, 1, 100, 1}) || e != api.OK {
		t.Error(l, e)
	}
	want := api.Score{Points: 2, Multipliers: 1, Total: 2}
	if x, e := scores.ScoreOf(c, b, 0, []int{0}); x != want || e != api.OK {
		t.Error(x, e)
	}
	if n, e := scores.Joint(c); n != 1 || e != api.OK {
		t.Error(n, e)
	}
	if x, e := scores.Credited(c, b, 0); x != want || e != api.OK {
		t.Error(x, e)
	}
	if l, e := scores.Ranks(c, b, []int{0}); !slices.Equal(l, []int{1, 1}) || e != api.OK {
		t.Error(l, e)
	}
	if span, e := scores.RankSpan(c, b, 1); span != (api.Span{Lo: 1, Hi: 1}) || e != api.OK {
		t.Error(span, e)
	}
	if pair, e := scores.Hinge(c, b, 0); pair != 0 || e != api.ErrRank {
		t.Error(pair, e)
	}
}

// meeting returns a case of two logs with one contact: the pair 0.
func meeting() api.Case {
	return caseOf(log("D1A", qso(100, "K1B", 1, 2)), log("K1B", qso(101, "D1A", 2, 1)))
}

// S2: each status, in readings that have the pair and that lack it, with copies at a cost of just Pardon and of more.
func TestStatus(t *testing.T) {
	const credited, busted, refused, unchecked, out = api.Credited, api.Busted, api.Refused, api.Unchecked, api.StruckOut
	have := []int{0}
	for i, x := range []struct {
		change   func(a, b *api.Line, c *api.Case)
		r        []int
		own, his int
	}{
		{func(a, b *api.Line, c *api.Case) {}, have, credited, credited}, {func(a, b *api.Line, c *api.Case) {}, nil, refused, refused},
		{func(a, b *api.Line, c *api.Case) { a.Call = "K1C" }, have, credited, credited}, {func(a, b *api.Line, c *api.Case) { a.Call = "K1C" }, nil, unchecked, refused},
		{func(a, b *api.Line, c *api.Case) { a.Call, c.Contest.Pardon = "K1C", 1 }, have, busted, credited}, {func(a, b *api.Line, c *api.Case) { a.Call = "K2C" }, have, busted, credited}, {func(a, b *api.Line, c *api.Case) { a.Got.Serial = 33 }, have, busted, credited},
		{func(a, b *api.Line, c *api.Case) { b.Call = "D1B" }, have, credited, credited}, {func(a, b *api.Line, c *api.Case) { b.Call = "D1B" }, nil, refused, unchecked}, {func(a, b *api.Line, c *api.Case) { b.Call, c.Contest.Pardon = "D1B", 1 }, have, credited, busted}, {func(a, b *api.Line, c *api.Case) { b.Call = "D2B" }, have, credited, busted}, {func(a, b *api.Line, c *api.Case) { b.Got.Serial = 33 }, have, credited, busted},
		{func(a, b *api.Line, c *api.Case) { a.Call, b.Call = "K2C", "D2B" }, have, busted, busted}, {func(a, b *api.Line, c *api.Case) { a.Call, b.Call = "K2C", "D2B" }, nil, unchecked, unchecked}, {func(a, b *api.Line, c *api.Case) { a.Call, b.Call = "K2", "D1A" }, nil, unchecked, refused},
		{func(a, b *api.Line, c *api.Case) { c.Contest.Pardon = 0 }, have, credited, credited}, {func(a, b *api.Line, c *api.Case) { a.Call, b.Call, c.Contest.Pardon = "K2C", "D2B", 4 }, have, credited, credited}, {func(a, b *api.Line, c *api.Case) { a.Call, c.Contest.Pardon = "K2C", 3 }, have, busted, credited},
		// A line that names its own station is refused, as there is a log with this call.
		{func(a, b *api.Line, c *api.Case) { a.Call = "D1A" }, nil, refused, refused},
		{func(a, b *api.Line, c *api.Case) { c.Struck = []api.Ref{ref(0, 0)} }, nil, out, refused}, {func(a, b *api.Line, c *api.Case) { c.Struck = []api.Ref{ref(1, 0)} }, nil, refused, out}, {func(a, b *api.Line, c *api.Case) { c.Struck = []api.Ref{ref(0, 0), ref(1, 0)}; a.Call = "Z9Z" }, nil, out, out},
		{func(a, b *api.Line, c *api.Case) { c.Forbid = []api.Duo{duo(0, 0, 1, 0)} }, nil, refused, refused},
		// What judges forced is a contact, whatever the lines say.
		{func(a, b *api.Line, c *api.Case) { a.Call, a.Khz, c.Force = "Q9QQQQ", 7, []api.Duo{duo(0, 0, 1, 0)} }, have, busted, credited},
	} {
		c := meeting()
		x.change(&c.Logs[0].Lines[0], &c.Logs[1].Lines[0], &c)
		v := viewOf(t, c)
		for k, want := range []int{x.own, x.his} {
			status, e := scores.Status(c, x.r, ref(k, 0))
			if status != want || e != api.OK || v.status(x.r, ref(k, 0)) != want {
				t.Error(i, k, status, e, "want", want, v.status(x.r, ref(k, 0)))
			}
		}
	}
}

// S1: facts, where each of them is there, is missing, and changes from one day to the next.
func TestFacts(t *testing.T) {
	have := []int{0}
	for i, x := range []struct {
		change func(a, b *api.Line, c *api.Case)
		r      []int
		log    int
		want   []int
	}{
		{func(a, b *api.Line, c *api.Case) {}, have, 0, []int{7, 3, 1, 1, 14, 1, 2, 5, 2, 2, 14, 1, 100, 1}},
		{func(a, b *api.Line, c *api.Case) {}, have, 1, []int{7, 3, 1, 2, 5, 2, 1, 14, 1, 1, 14, 1, 100, 1}},
		{func(a, b *api.Line, c *api.Case) {}, nil, 0, []int{7, 3, 1, 1, 14, 1, 2, 5, 2, 0, 14, 1, 100, 4}},
		// In a pair it is the other station's call that tells the place, not the one that was heard.
		{func(a, b *api.Line, c *api.Case) { a.Call = "W1B" }, have, 0, []int{7, 3, 1, 1, 14, 1, 2, 5, 2, 2, 14, 1, 100, 1}}, {func(a, b *api.Line, c *api.Case) { a.Call = "W1B" }, nil, 0, []int{7, 3, 1, 1, 14, 1, 2, 3, 2, 0, 14, 1, 100, 5}},
		{func(a, b *api.Line, c *api.Case) { a.Call = "KB" }, have, 0, []int{7, 3, 1, 1, 14, 1, 2, 5, 2, 2, 14, 1, 100, 1}},
		// Calls that are no call signs, and stations that the table does not know.
		{func(a, b *api.Line, c *api.Case) { a.Call = "KB" }, nil, 0, []int{7, 3, 1, 1, 14, 1, 0, 0, 0, 0, 14, 1, 100, 5}}, {func(a, b *api.Line, c *api.Case) { a.Call = "//" }, nil, 0, []int{7, 3, 1, 1, 14, 1, 0, 0, 0, 0, 14, 1, 100, 5}}, {func(a, b *api.Line, c *api.Case) { a.Call = "Z9Z" }, nil, 0, []int{7, 3, 1, 1, 14, 1, 0, 0, 0, 0, 14, 1, 100, 5}}, {func(a, b *api.Line, c *api.Case) { a.Call = "W/D1X" }, nil, 0, []int{7, 3, 1, 1, 14, 1, 2, 3, 2, 0, 14, 1, 100, 5}},
		{func(a, b *api.Line, c *api.Case) { c.Contest.Table = c.Contest.Table[1:] }, have, 0, []int{7, 3, 1, 0, 0, 0, 2, 5, 2, 2, 14, 1, 100, 1}}, {func(a, b *api.Line, c *api.Case) { c.Contest.Table = c.Contest.Table[1:] }, have, 1, []int{7, 3, 1, 2, 5, 2, 0, 0, 0, 1, 14, 1, 100, 1}}, {func(a, b *api.Line, c *api.Case) { c.Contest.Table = nil }, have, 1, []int{7, 3, 1, 0, 0, 0, 0, 0, 0, 1, 14, 1, 100, 1}},
		// Bands, and none: at their ends, and beside them.
		{func(a, b *api.Line, c *api.Case) { a.Khz = 1799 }, nil, 0, []int{0, 3, 1, 1, 14, 1, 2, 5, 2, 0, 14, 1, 100, 4}}, {func(a, b *api.Line, c *api.Case) { a.Khz = 1800 }, nil, 0, []int{7, 3, 1, 1, 14, 1, 2, 5, 2, 0, 14, 1, 100, 4}}, {func(a, b *api.Line, c *api.Case) { a.Khz = 2001 }, nil, 0, []int{0, 3, 1, 1, 14, 1, 2, 5, 2, 0, 14, 1, 100, 4}}, {func(a, b *api.Line, c *api.Case) { a.Khz = 3800 }, nil, 0, []int{9, 3, 1, 1, 14, 1, 2, 5, 2, 0, 14, 1, 100, 4}}, {func(a, b *api.Line, c *api.Case) { c.Contest.Bands = nil }, nil, 0, []int{0, 3, 1, 1, 14, 1, 2, 5, 2, 0, 14, 1, 100, 4}},
		{func(a, b *api.Line, c *api.Case) { a.Mode, b.Mode = api.Morse, api.Morse }, have, 0, []int{7, 1, 1, 1, 14, 1, 2, 5, 2, 2, 14, 1, 100, 1}}, {func(a, b *api.Line, c *api.Case) { a.Mode = api.Voice }, nil, 0, []int{7, 2, 1, 1, 14, 1, 2, 5, 2, 0, 14, 1, 100, 4}},
		{func(a, b *api.Line, c *api.Case) { a.Got.Zone, b.Sent.Zone = 15, 15 }, have, 0, []int{7, 3, 1, 1, 14, 1, 2, 5, 2, 2, 15, 1, 100, 1}}, {func(a, b *api.Line, c *api.Case) { c.Logs[0].Category, c.Logs[0].Power = 9, 9999 }, have, 0, []int{7, 3, 1, 1, 14, 1, 2, 5, 2, 2, 14, 9, 9999, 1}}, {func(a, b *api.Line, c *api.Case) { c.Logs[0].Category, c.Logs[0].Power = 9, 9999 }, have, 1, []int{7, 3, 1, 2, 5, 2, 1, 14, 1, 1, 14, 1, 100, 1}},
		{func(a, b *api.Line, c *api.Case) { c.Struck = []api.Ref{ref(0, 0)} }, nil, 0, []int{7, 3, 1, 1, 14, 1, 2, 5, 2, 0, 14, 1, 100, 6}}, {func(a, b *api.Line, c *api.Case) { a.Call = "K2C" }, have, 0, []int{7, 3, 1, 1, 14, 1, 2, 5, 2, 2, 14, 1, 100, 2}},
		// Hours.
		{func(a, b *api.Line, c *api.Case) { a.Minute = 59 }, nil, 0, []int{7, 3, 0, 1, 14, 1, 2, 5, 2, 0, 14, 1, 100, 4}}, {func(a, b *api.Line, c *api.Case) { a.Minute = 60 }, nil, 0, []int{7, 3, 1, 1, 14, 1, 2, 5, 2, 0, 14, 1, 100, 4}}, {func(a, b *api.Line, c *api.Case) { a.Minute = 119 }, nil, 0, []int{7, 3, 1, 1, 14, 1, 2, 5, 2, 0, 14, 1, 100, 4}},
		// A place ends on the day 10 and begins again on the day 12; another one is there on the day 11 alone.
		{func(a, b *api.Line, c *api.Case) { a.Minute, b.Minute = 1439, 1440 }, have, 0, []int{7, 3, 23, 1, 14, 1, 2, 5, 2, 2, 14, 1, 100, 1}}, {func(a, b *api.Line, c *api.Case) { a.Minute, b.Minute = 1439, 1440 }, have, 1, []int{7, 3, 24, 0, 0, 0, 1, 14, 1, 1, 14, 1, 100, 1}}, {func(a, b *api.Line, c *api.Case) { a.Minute, b.Minute = 1440, 1439 }, have, 0, []int{7, 3, 24, 1, 14, 1, 0, 0, 0, 2, 14, 1, 100, 1}},
		{func(a, b *api.Line, c *api.Case) { a.Minute, b.Minute = 2879, 2880 }, have, 0, []int{7, 3, 47, 1, 14, 1, 0, 0, 0, 2, 14, 1, 100, 1}}, {func(a, b *api.Line, c *api.Case) { a.Minute, b.Minute = 2879, 2880 }, have, 1, []int{7, 3, 48, 2, 4, 2, 1, 14, 1, 1, 14, 1, 100, 1}},
		{func(a, b *api.Line, c *api.Case) { a.Call, a.Minute = "W1A", 1439 }, nil, 0, []int{7, 3, 23, 1, 14, 1, 2, 3, 2, 0, 14, 1, 100, 5}}, {func(a, b *api.Line, c *api.Case) { a.Call, a.Minute = "W1A", 1440 }, nil, 0, []int{7, 3, 24, 1, 14, 1, 3, 40, 3, 0, 14, 1, 100, 5}}, {func(a, b *api.Line, c *api.Case) { a.Call, a.Minute = "W1A", 2880 }, nil, 0, []int{7, 3, 48, 1, 14, 1, 2, 3, 2, 0, 14, 1, 100, 5}},
		{func(a, b *api.Line, c *api.Case) { a.Minute, c.Contest.Day = api.MaxMinute, api.MaxDay-20 }, nil, 0, []int{7, 3, 333, 1, 14, 1, 2, 4, 2, 0, 14, 1, 100, 4}}, {func(a, b *api.Line, c *api.Case) { c.Contest.Day = 0 }, have, 0, []int{7, 3, 1, 1, 14, 1, 2, 5, 2, 2, 14, 1, 100, 1}},
	} {
		c := meeting()
		x.change(&c.Logs[0].Lines[0], &c.Logs[1].Lines[0], &c)
		l, e := scores.Facts(c, x.r, ref(x.log, 0))
		if !slices.Equal(l, x.want) || e != api.OK {
			t.Error(i, l, e, "want", x.want)
		}
		if l := viewOf(t, c).facts(x.r, ref(x.log, 0)); !slices.Equal(l, x.want) {
			t.Error(i, l, "want", x.want)
		}
	}
}

// S1, S2: logs are numbered as in the case, also the last one of many.
func TestManyLogs(t *testing.T) {
	var l []api.Log
	for i := range api.MaxLogs {
		l = append(l, log("D"+string(rune('A'+i/8))+"1"+string(rune('A'+i%8))))
	}
	l[0].Lines = log("", qso(5, l[63].Call, 1, 2)).Lines
	l[63].Lines = log("", qso(5, l[0].Call, 2, 1)).Lines
	facts, e := scores.Facts(caseOf(l...), []int{0}, ref(0, 0))
	if e != api.OK || facts[api.FieldCall] != 64 || facts[api.FieldStatus] != api.Credited {
		t.Error(facts, e)
	}
	facts, e = scores.Facts(caseOf(l...), []int{0}, ref(63, 0))
	if e != api.OK || facts[api.FieldCall] != 1 || facts[api.FieldStatus] != api.Credited {
		t.Error(facts, e)
	}
}
