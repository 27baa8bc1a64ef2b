package conduct_test

import (
	"slices"
	"testing"

	"pileup/api"
	"pileup/clocks"
	"pileup/conduct"
	"pileup/readings"
)

// ref and duo are short ways to write lines and two of them.
func ref(log, line int) api.Ref  { return api.Ref{Log: log, Line: line} }
func duo(a, j, b, k int) api.Duo { return api.Duo{A: ref(a, j), B: ref(b, k)} }

// contest returns the contest of the examples, with a third band, in which Data costs 2 a character.
func contest() api.Contest {
	return api.Contest{
		Bands:  []api.Band{{ID: 1, Lo: 14000, Hi: 14350}, {ID: 2, Lo: 21000, Hi: 21450}, {ID: 7, Lo: 28000, Hi: 29700}},
		Layout: api.Layout{Serial: true},
		Length: 1440,
		Slip:   5, Window: 2,
		Near: 4, Pardon: 2,
		Lost: 6, Stranger: 3,
	}
}

// ruling returns the rules of the examples.
func ruling() api.Conduct {
	return api.Conduct{Gap: 3, Hour: 10, Changes: 2, Minutes: 5, Rest: 30, Share: 50, Power: slices.Repeat([]int{100}, 9)}
}

// ruled returns the rules of the examples after a change.
func ruled(change func(*api.Conduct)) api.Conduct {
	k := ruling()
	change(&k)
	return k
}

// The frequencies of lines on the three bands, and on none.
const (
	low, middle, high = 14010, 21010, 28010
	outside           = 7000
)

// qso returns a line in Data with a station that sends no log.
func qso(minute, khz, serial int) api.Line {
	return api.Line{Khz: khz, Mode: api.Data, Minute: minute, Call: "Z9Z", Sent: api.Exchange{Serial: serial}, Got: api.Exchange{Serial: 1}}
}

// with returns a line in Data with a station.
func with(call string, minute, serial, got int) api.Line {
	x := qso(minute, low, serial)
	x.Call, x.Got.Serial = call, got
	return x
}

// log returns a log with lines that are numbered from 1 on.
func log(call string, lines ...api.Line) api.Log {
	l := api.Log{Call: call, Category: 1, Power: 100, Lines: slices.Clone(lines)}
	for i := range l.Lines {
		l.Lines[i].Num = i + 1
	}
	return l
}

// caseOf returns a case of logs.
func caseOf(l ...api.Log) api.Case { return api.Case{Contest: contest(), Logs: l} }

// shown returns a case of one log, with clocks that are right, and lines on the low band at these minutes.
func shown(minutes ...int) api.Case {
	var l []api.Line
	for i, minute := range minutes {
		l = append(l, qso(minute, low, i+1))
	}
	c := caseOf(log("A1A", l...))
	c.Contest.Slip = 0
	return c
}

// tuned returns a case of one log, with clocks that are right, and lines each minute on these frequencies.
func tuned(khz ...int) api.Case {
	var minutes []int
	for i := range khz {
		minutes = append(minutes, i)
	}
	c := shown(minutes...)
	for i, x := range khz {
		c.Logs[0].Lines[i].Khz = x
	}
	return c
}

// numbered returns a case of one log whose lines sent these serial numbers.
func numbered(serials ...int) api.Case {
	var l []api.Line
	for i, serial := range serials {
		l = append(l, qso(10*i, low, serial))
	}
	return caseOf(log("A1A", l...))
}

// example returns the case of the examples.
func example() api.Case {
	var l []api.Line
	khz := []int{low, middle, low, middle, low, low}
	minutes := []int{60, 61, 63, 64, 100, 104}
	for i, serial := range []int{1, 2, 3, 3, 5, 6} {
		l = append(l, qso(minutes[i], khz[i], serial))
	}
	x := log("A1A", l...)
	x.Power = 200
	return caseOf(x)
}

// struck returns a case in which lines of its first log are struck.
func struck(c api.Case, lines ...int) api.Case {
	for _, line := range lines {
		c.Struck = append(c.Struck, ref(0, line))
	}
	return c
}

// A truth is what a case is by the words of the document: the delays of the lines of each log behind one another, the own lines, and the statuses of lines. It is asked whether lines prove a breach.
type truth struct {
	t        *testing.T
	c        api.Case
	system   api.System
	own      [][]int
	delays   [][][]api.Span
	statuses [][]int
}

// truthOf returns the truth of a case.
func truthOf(t *testing.T, c api.Case) truth {
	t.Helper()
	system, e := readings.System(c)
	statuses, f := readings.Lines(c)
	if e+f != api.OK {
		t.Fatal(c, e, f)
	}
	x := truth{t: t, c: c, system: system, statuses: statuses}
	for i, l := range c.Logs {
		var own []int
		delays := make([][]api.Span, len(l.Lines))
		for j := range l.Lines {
			if !slices.Contains(c.Struck, ref(i, j)) {
				own = append(own, j)
			}
			for k := range l.Lines {
				delay, e := clocks.Relation(system, ref(i, j), ref(i, k))
				if e != api.OK {
					t.Fatal(c, i, j, k, e)
				}
				delays[j] = append(delays[j], delay)
			}
		}
		x.own, x.delays = append(x.own, own), append(x.delays, delays)
	}
	return x
}

// band returns the ID of the band of a line, and 0 for none.
func (x truth) band(log, line int) int {
	for _, b := range x.c.Contest.Bands {
		if khz := x.c.Logs[log].Lines[line].Khz; b.Lo <= khz && khz <= b.Hi {
			return b.ID
		}
	}
	return 0
}

// onAir returns the minutes on the air that lines prove.
func (x truth) onAir(k api.Conduct, log int, lines []int) int {
	sum := 0
	for i := range lines {
		if i == 0 {
			continue
		}
		if delay := x.delays[log][lines[i-1]][lines[i]]; delay.Hi < k.Rest {
			sum += delay.Lo
		}
	}
	return sum
}

// rotates reports whether lines have bands, each another one than the line before it.
func (x truth) rotates(log int, lines []int) bool {
	for i, line := range lines {
		if x.band(log, line) == 0 || i > 0 && x.band(log, line) == x.band(log, lines[i-1]) {
			return false
		}
	}
	return true
}

// proves reports whether some own lines prove a breach of a kind.
func (x truth) proves(k api.Conduct, kind, log int, lines []int) bool {
	n := len(lines)
	hi := api.NoBound
	if n > 0 {
		hi = x.delays[log][lines[0]][lines[n-1]].Hi
	}
	switch kind {
	case api.BreachSignals:
		return n == 2 && x.rotates(log, lines) && hi < k.Gap
	case api.BreachChanges:
		return n >= k.Changes+2 && x.rotates(log, lines) && hi < k.Hour
	case api.BreachMinutes:
		return x.onAir(k, log, lines) > k.Minutes
	case api.BreachShare:
		for _, line := range lines {
			if x.statuses[log][line] != api.Refused {
				return false
			}
		}
		return n*100 > k.Share*len(x.own[log])
	case api.BreachSerial:
		l := x.c.Logs[log].Lines
		return x.c.Contest.Layout.Serial && n == 2 && l[lines[1]].Sent.Serial <= l[lines[0]].Sent.Serial
	case api.BreachPower:
		return n == 0 && x.c.Logs[log].Power > k.Power[x.c.Logs[log].Category-1]
	}
	return false
}

// lists returns all lists of some lines: the shorter ones first, and those that are as long in order.
func lists(lines []int) [][]int {
	all := [][]int{nil}
	for n := 0; n < len(all); n++ {
		for _, line := range lines {
			if l := all[n]; len(l) == 0 || line > l[len(l)-1] {
				all = append(all, append(slices.Clone(l), line))
			}
		}
	}
	return all
}

// least returns the first one of the shortest lists of some lines that prove a breach, and whether there is one.
func (x truth) least(k api.Conduct, kind, log int, lines []int) ([]int, bool) {
	for _, l := range lists(lines) {
		if x.proves(k, kind, log, l) {
			return l, true
		}
	}
	return nil, false
}

// signals returns the two own lines, consecutive among those that have bands, that prove signals on two bands at one time.
func (x truth) signals(k api.Conduct, log int) [][]int {
	var found [][]int
	last := -1
	for _, line := range x.own[log] {
		if x.band(log, line) == 0 {
			continue
		}
		if last >= 0 && x.proves(k, api.BreachSignals, log, []int{last, line}) {
			found = append(found, []int{last, line})
		}
		last = line
	}
	return found
}

// findings returns all findings of a log.
func (x truth) findings(k api.Conduct, log int) []api.Finding {
	var found []api.Finding
	for _, lines := range x.signals(k, log) {
		found = append(found, api.Finding{Kind: api.BreachSignals, Log: log, Lines: lines})
	}
	for kind := api.BreachChanges; kind <= api.BreachPower; kind++ {
		if lines, has := x.least(k, kind, log, x.own[log]); has {
			found = append(found, api.Finding{Kind: kind, Log: log, Lines: lines})
		}
	}
	return found
}

// sameFinding reports whether two findings are equal.
func sameFinding(x, y api.Finding) bool {
	return x.Kind == y.Kind && x.Log == y.Log && slices.Equal(x.Lines, y.Lines)
}

// sameFindings reports whether lists of findings are equal.
func sameFindings(l, m []api.Finding) bool { return slices.EqualFunc(l, m, sameFinding) }

// tell returns the finding that the function for a kind returns; of signals the first one.
func tell(c api.Case, k api.Conduct, kind, log int) (api.Finding, api.Errno) {
	switch kind {
	case api.BreachSignals:
		l, e := conduct.Signals(c, k, log)
		if e != api.OK || len(l) == 0 {
			return api.Finding{}, max(e, api.ErrNone)
		}
		return l[0], api.OK
	case api.BreachChanges:
		return conduct.Changes(c, k, log)
	case api.BreachMinutes:
		return conduct.Minutes(c, k, log)
	case api.BreachShare:
		return conduct.Share(c, k, log)
	case api.BreachSerial:
		return conduct.Serial(c, log)
	}
	return conduct.Power(c, k, log)
}

// A trial is a case of which the function for a kind tells lines of the log 0, or that there are none.
type trial struct {
	c    api.Case
	k    api.Conduct
	want []int
	e    api.Errno
}

// hold holds what is told of a kind in trials against what is wanted of them, against the words of the document if there are not too many lines, and against Check, Needed and Fewest.
func hold(t *testing.T, kind int, trials []trial) {
	t.Helper()
	for i, x := range trials {
		f, e := tell(x.c, x.k, kind, 0)
		want := api.Finding{Kind: kind, Lines: x.want}
		if x.e != api.OK {
			want = api.Finding{}
		}
		if !sameFinding(f, want) || e != x.e {
			t.Error(i, f, e, "want", want, x.e)
		}
		if n, e := conduct.Fewest(x.c, x.k, kind, 0); n != len(x.want) || e != x.e {
			t.Error(i, n, e, "want", len(x.want), x.e)
		}
		own, _ := conduct.Own(x.c, 0)
		if len(own) < 12 {
			if l, has := truthOf(t, x.c).least(x.k, kind, 0, own); !slices.Equal(l, x.want) || has != (x.e == api.OK) {
				t.Error(i, "wanted", x.want, x.e, "but it is", l, has)
			}
		}
		if x.e != api.OK {
			continue
		}
		e = conduct.Check(x.c, x.k, want)
		if needed, f := conduct.Needed(x.c, x.k, want); !needed || e+f != api.OK {
			t.Error(i, needed, e, f)
		}
	}
}
