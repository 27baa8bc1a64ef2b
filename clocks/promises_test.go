package clocks_test

import (
	"math/rand/v2"
	"slices"
	"testing"

	"pileup/api"
	"pileup/clocks"
)

// near reports whether two numbers differ by at most n.
func near(a, b, n int) bool { return max(a-b, b-a) <= n }

// allowed reports whether times are allowed by the words of the document, and by nothing else.
func allowed(s api.System, l [][]int) bool {
	for log, t := range s.Tracks {
		for j := range t.Times {
			if !near(l[log][j], t.Times[j], t.Clock.Slip) || j > 0 && !follows(t, j, l[log][j-1], l[log][j]) {
				return false
			}
		}
	}
	for _, x := range s.Ties {
		if !near(l[x.A.Log][x.A.Line], l[x.B.Log][x.B.Line], s.Window) {
			return false
		}
	}
	return true
}

// follows reports whether the true minutes of a line and of the one ahead of it go together.
func follows(t api.Track, j, before, after int) bool {
	if after < before {
		return false
	}
	for _, jump := range t.Clock.Jumps {
		if t.Times[j-1] < jump && jump <= t.Times[j] {
			return true
		}
	}
	shown := t.Times[j] - t.Times[j-1]
	wrong := 1
	for (wrong-1)*1000 < t.Clock.Drift*shown {
		wrong++
	}
	return near(after-before, shown, wrong)
}

// allTimes returns all times of a small system that are allowed.
func allTimes(s api.System) [][][]int {
	var all [][][]int
	l := make([][]int, len(s.Tracks))
	refs := refsOf(s)
	var try func(int)
	try = func(i int) {
		if i == len(refs) {
			if allowed(s, l) {
				var m [][]int
				for _, x := range l {
					m = append(m, slices.Clone(x))
				}
				all = append(all, m)
			}
			return
		}
		r := refs[i]
		t := s.Tracks[r.Log]
		for minute := t.Times[r.Line] - t.Clock.Slip; minute <= t.Times[r.Line]+t.Clock.Slip; minute++ {
			if r.Line > 0 && !follows(t, r.Line, l[r.Log][r.Line-1], minute) {
				continue
			}
			l[r.Log] = append(l[r.Log][:r.Line], minute)
			try(i + 1)
		}
		l[r.Log] = l[r.Log][:r.Line]
	}
	try(0)
	return all
}

// spanOf returns the span of numbers, and whether there is none missing in it.
func spanOf(numbers []int) (api.Span, bool) {
	l := slices.Clone(numbers)
	slices.Sort(l)
	l = slices.Compact(l)
	x := api.Span{Lo: l[0], Hi: l[len(l)-1]}
	return x, x.Hi-x.Lo+1 == len(l)
}

// pick returns a number of all times.
func pick(all [][][]int, of func([][]int) int) []int {
	var l []int
	for _, m := range all {
		l = append(l, of(m))
	}
	return l
}

// P3.2, P3.3, P3.4, P3.7: small systems, held against all of their times.
func TestAllTimes(t *testing.T) {
	r := rand.New(rand.NewPCG(3, 2))
	closed, open := 0, 0
	for range 2500 {
		s := few().system(r)
		all := allTimes(s)
		if len(all) == 0 {
			open++
			l, e := clocks.FindLoop(s)
			if ok, f := clocks.ValidLoop(s, l); !ok || e+f != api.OK {
				t.Fatal(s, l, e, f)
			}
			if x, e := clocks.Times(s); len(x) > 0 || e != api.ErrLoop {
				t.Fatal(s, x, e)
			}
			continue
		}
		closed++
		if !closes(s) {
			t.Fatal(s)
		}
		holdSpans(t, s, all)
		holdRelations(t, s, all)
	}
	if closed < 500 || open < 200 {
		t.Error(closed, open)
	}
}

// holdSpans holds the spans of all lines against all times.
func holdSpans(t *testing.T, s api.System, all [][][]int) {
	t.Helper()
	spans, e := clocks.Times(s)
	early, f := clocks.Earliest(s)
	late, g := clocks.Latest(s)
	if e+f+g != api.OK || !allowed(s, early) || !allowed(s, late) {
		t.Fatal(s, e, f, g, early, late)
	}
	if len(spans) != len(s.Tracks) || len(early) != len(s.Tracks) || len(late) != len(s.Tracks) {
		t.Fatal(s, spans, early, late)
	}
	for _, r := range refsOf(s) {
		want, whole := spanOf(pick(all, func(m [][]int) int { return m[r.Log][r.Line] }))
		shown := s.Tracks[r.Log].Times[r.Line]
		x, e := clocks.Interval(s, r)
		off, f := clocks.Offset(s, r)
		if !whole || spans[r.Log][r.Line] != want || early[r.Log][r.Line] != want.Lo || late[r.Log][r.Line] != want.Hi || x != want || off != (api.Span{Lo: shown - want.Hi, Hi: shown - want.Lo}) || e+f != api.OK {
			t.Fatal(s, r, spans, early, late, x, off, "want", want)
		}
		holdPaths(t, s, r, want)
	}
}

// holdPaths holds the paths of both ends of a span against the span.
func holdPaths(t *testing.T, s api.System, r api.Ref, x api.Span) {
	t.Helper()
	for latest, want := range map[bool]int{true: x.Hi, false: x.Lo} {
		l, e := clocks.Path(s, r, latest)
		n, f := clocks.ValidPath(s, r, latest, l)
		if n != want || e+f != api.OK {
			t.Fatal(s, r, latest, l, e, n, f, "want", want)
		}
	}
}

// holdRelations holds the relations of all lines against all times.
func holdRelations(t *testing.T, s api.System, all [][][]int) {
	t.Helper()
	for _, a := range refsOf(s) {
		for _, b := range refsOf(s) {
			want, _ := spanOf(pick(all, func(m [][]int) int { return m[b.Log][b.Line] - m[a.Log][a.Line] }))
			x, e := clocks.Relation(s, a, b)
			may, f := clocks.May(s, a, b)
			must, g := clocks.Must(s, a, b)
			before, h := clocks.Before(s, a, b)
			if x != want || may != (want.Lo <= s.Window && want.Hi >= -s.Window) || must != (want.Lo >= -s.Window && want.Hi <= s.Window) || before != (want.Lo > 0) || e+f+g+h != api.OK {
				t.Fatal(s, a, b, x, may, must, before, "want", want)
			}
		}
	}
}

// A table has for each two refs of a system, the beginning among them, the least sum of bounds that lead from one to the other.
type table map[[2]api.Ref]int

// tableOf returns the table of a system, found by trying all refs in between, and whether the system closes.
func tableOf(t *testing.T, s api.System) (table, bool) {
	t.Helper()
	refs := append(refsOf(s), beginning)
	d := table{}
	for _, a := range refs {
		for _, b := range refs {
			d[[2]api.Ref{a, b}] = api.NoBound
		}
		d[[2]api.Ref{a, a}] = 0
	}
	for _, b := range boundsOf(t, s) {
		k := [2]api.Ref{b.From, b.To}
		d[k] = min(d[k], b.Most)
	}
	for _, m := range refs {
		for _, a := range refs {
			for _, b := range refs {
				d[[2]api.Ref{a, b}] = min(d[[2]api.Ref{a, b}], d[[2]api.Ref{a, m}]+d[[2]api.Ref{m, b}])
			}
		}
	}
	return d, !slices.ContainsFunc(refs, func(r api.Ref) bool { return d[[2]api.Ref{r, r}] < 0 })
}

// span returns by how much b may be later than a.
func (d table) span(a, b api.Ref) api.Span {
	return api.Span{Lo: -d[[2]api.Ref{b, a}], Hi: d[[2]api.Ref{a, b}]}
}

// P3.2, P3.3, P3.4, P3.7: greater systems, held against their tables.
func TestTables(t *testing.T) {
	r := rand.New(rand.NewPCG(3, 3))
	closed, open := 0, 0
	for range 250 {
		s := many().system(r)
		d, ok := tableOf(t, s)
		if closes(s) != ok {
			t.Fatal(s, ok)
		}
		if !ok {
			open++
			l, _ := clocks.FindLoop(s)
			if ok, e := clocks.ValidLoop(s, l); !ok || e != api.OK {
				t.Fatal(s, l, e)
			}
			continue
		}
		closed++
		spans, e := clocks.Times(s)
		if e != api.OK {
			t.Fatal(s, e)
		}
		refs := refsOf(s)
		for _, a := range refs {
			x := spans[a.Log][a.Line]
			if x != d.span(beginning, a) {
				t.Fatal(s, a, x)
			}
			holdPaths(t, s, a, x)
			b := refs[r.IntN(len(refs))]
			if x, e := clocks.Relation(s, a, b); x != d.span(a, b) || e != api.OK {
				t.Fatal(s, a, b, x, e)
			}
		}
	}
	if closed < 50 || open < 30 {
		t.Error(closed, open)
	}
}

// lies reports whether a span lies in another one.
func lies(x, in api.Span) bool { return in.Lo <= x.Lo && x.Hi <= in.Hi }

// relation returns the relation of two lines of a system that closes.
func relation(t *testing.T, s api.System, a, b api.Ref) api.Span {
	t.Helper()
	x, e := clocks.Relation(s, a, b)
	if e != api.OK {
		t.Fatal(s, a, b, e)
	}
	return x
}

// P3.4: signs, three lines, spans and ties.
func TestRelations(t *testing.T) {
	r := rand.New(rand.NewPCG(3, 4))
	for range 2500 {
		s := many().system(r)
		spans, e := clocks.Times(s)
		refs := refsOf(s)
		if e != api.OK || len(refs) == 0 {
			continue
		}
		a, b, c := refs[r.IntN(len(refs))], refs[r.IntN(len(refs))], refs[r.IntN(len(refs))]
		ab, ba, bc, ac := relation(t, s, a, b), relation(t, s, b, a), relation(t, s, b, c), relation(t, s, a, c)
		x, y := spans[a.Log][a.Line], spans[b.Log][b.Line]
		if ab != (api.Span{Lo: -ba.Hi, Hi: -ba.Lo}) || !lies(ac, api.Span{Lo: ab.Lo + bc.Lo, Hi: ab.Hi + bc.Hi}) || !lies(ab, api.Span{Lo: y.Lo - x.Hi, Hi: y.Hi - x.Lo}) || relation(t, s, a, a) != (api.Span{}) {
			t.Fatal(s, a, b, c, ab, ba, bc, ac)
		}
		for _, x := range s.Ties {
			if ok, e := clocks.Must(s, x.A, x.B); !ok || e != api.OK {
				t.Fatal(s, x, e)
			}
		}
	}
}

// P3.5, P3.6: a further tie makes no span greater, and changes none if it must hold; the first ties do not depend on those behind them.
func TestMoreTies(t *testing.T) {
	r := rand.New(rand.NewPCG(3, 6))
	sure := 0
	for range 2500 {
		s := many().system(r)
		l := many().tiesOf(r, s, 8)
		if r.IntN(3) == 0 {
			l = slices.Concat(s.Ties, l)
		}
		before, e := clocks.Times(s)
		if e != api.OK || len(l) == 0 {
			continue
		}
		accepted, e := clocks.Accept(s, l)
		n := r.IntN(len(l))
		if first, f := clocks.Accept(s, l[:n]); !slices.Equal(first, accepted[:n]) || e+f != api.OK {
			t.Fatal(s, l, accepted, first)
		}
		must, _ := clocks.Must(s, l[0].A, l[0].B)
		may, _ := clocks.May(s, l[0].A, l[0].B)
		if accepted[0] != may || must && !may {
			t.Fatal(s, l[0], accepted[0], may, must)
		}
		if !accepted[0] {
			continue
		}
		after, e := clocks.Times(with(s, l[0]))
		if e != api.OK || must && !sameLists(before, after) {
			t.Fatal(s, l[0], before, after, e)
		}
		if must {
			sure++
		}
		for _, a := range refsOf(s) {
			if !lies(after[a.Log][a.Line], before[a.Log][a.Line]) {
				t.Fatal(s, l[0], a, before, after)
			}
		}
		holdKnown(t, s, with(s, l[0]), l)
	}
	if sure < 50 {
		t.Error(sure)
	}
}

// holdKnown holds what must and may be in a system against the same in one with a tie more.
func holdKnown(t *testing.T, s, more api.System, l []api.Tie) {
	t.Helper()
	for _, x := range l {
		must, e := clocks.Must(s, x.A, x.B)
		still, f := clocks.Must(more, x.A, x.B)
		may, g := clocks.May(s, x.A, x.B)
		yet, h := clocks.May(more, x.A, x.B)
		if must && !still || yet && !may || e+f+g+h != api.OK {
			t.Fatal(s, more.Ties, x, must, still, may, yet)
		}
	}
}

// moved returns a system with all Times and Jumps greater by a number.
func moved(s api.System, by int) api.System {
	s = copyOf(s)
	for _, t := range s.Tracks {
		for j := range t.Times {
			t.Times[j] += by
		}
		for j := range t.Clock.Jumps {
			t.Clock.Jumps[j] += by
		}
	}
	return s
}

// P3.8: later systems, and the same ties in another order or in the other direction.
func TestMoving(t *testing.T) {
	r := rand.New(rand.NewPCG(3, 8))
	for range 800 {
		s := many().system(r)
		by := r.IntN(5000)
		later, shuffled := moved(s, by), copyOf(s)
		r.Shuffle(len(shuffled.Ties), func(i, k int) { shuffled.Ties[i], shuffled.Ties[k] = shuffled.Ties[k], shuffled.Ties[i] })
		for i, x := range shuffled.Ties {
			if r.IntN(2) == 0 {
				shuffled.Ties[i] = api.Tie{A: x.B, B: x.A}
			}
		}
		was, e := clocks.Times(s)
		is, f := clocks.Times(later)
		same, g := clocks.Times(shuffled)
		if e != f || e != g || !sameLists(was, same) {
			t.Fatal(s, by, e, f, g, was, is, same)
		}
		for log := range was {
			for j, x := range was[log] {
				if is[log][j] != (api.Span{Lo: x.Lo + by, Hi: x.Hi + by}) {
					t.Fatal(s, by, was, is)
				}
				if a, b := line(log, j), line(0, 0); len(was[0]) > 0 && relation(t, s, a, b) != relation(t, later, a, b) {
					t.Fatal(s, by, a, b)
				}
			}
		}
	}
}

// full returns a system with as many tracks, lines and ties as there can be; each track knows less than the one before it, and the ties lead from each track to the next one, to and fro.
func full() api.System {
	s := api.System{Window: 1}
	for log := range api.MaxLogs {
		x := track(min(3+23*log, api.MaxSlip), 1, []int{5000, 15000})
		for j := range api.MaxLines {
			x.Times = append(x.Times, 49*j+log)
		}
		s.Tracks = append(s.Tracks, x)
	}
	for i := range api.MaxTies {
		log := i % (api.MaxLogs - 1)
		s.Ties = append(s.Ties, tie(log, (i*37)%api.MaxLines, log+1, (i*37)%api.MaxLines))
	}
	return s
}

// The promises hold at the limits, too.
func TestFullSystem(t *testing.T) {
	s := full()
	early, e := clocks.Earliest(s)
	late, f := clocks.Latest(s)
	if e+f != api.OK || !allowed(s, early) || !allowed(s, late) {
		t.Fatal(e, f)
	}
	last := line(api.MaxLogs-1, api.MaxLines-1)
	holdPaths(t, s, last, api.Span{Lo: early[last.Log][last.Line], Hi: late[last.Log][last.Line]})
	l := s.Ties
	s.Ties = nil
	accepted, e := clocks.Accept(s, l)
	if len(accepted) != len(l) || slices.Contains(accepted, false) || e != api.OK {
		t.Fatal(e)
	}
	s.Ties = append(l[:api.MaxTies-1:api.MaxTies-1], tie(0, 0, api.MaxLogs-1, api.MaxLines-1))
	if found, e := clocks.FindLoop(s); e != api.OK {
		t.Error(found, e)
	} else if ok, e := clocks.ValidLoop(s, found); !ok || e != api.OK {
		t.Error(found, e)
	}
}
