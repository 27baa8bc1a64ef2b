package logs_test

import (
	"math/rand/v2"
	"slices"
	"testing"

	"pileup/api"
	"pileup/logs"
)

// heard is a line of any kind, which need not be valid.
func heard(num, minute, serial int, call string) api.Line {
	return api.Line{Num: num, Minute: minute, Call: call, Sent: api.Exchange{Serial: serial}, Got: api.Exchange{Serial: serial + 1}}
}

// oddLog is a log that is not valid, with numbers, minutes and calls in no order.
func oddLog() api.Log {
	return api.Log{Lines: []api.Line{heard(5, 30, 9, "B"), heard(-3, 10, -1, "A/"), heard(5, 20, 9, "B"), heard(0, most, most, ""), heard(1, least, 0, "é"), heard(7, 20, 3, "b"), heard(7, 31, 3, "A")}}
}

// L16.
func TestIndex(t *testing.T) {
	for num, want := range map[int]int{5: 0, -3: 1, 0: 3, 1: 4, 7: 5} {
		if i, e := logs.Index(oddLog(), num); i != want || e != api.OK {
			t.Error(num, i, e)
		}
	}
	for _, num := range []int{4, 6, -1, most, least} {
		if i, e := logs.Index(oddLog(), num); i != 0 || e != api.ErrNone {
			t.Error(num, i, e)
		}
	}
	if i, e := logs.Index(api.Log{}, 0); i != 0 || e != api.ErrNone {
		t.Error(i, e)
	}
}

// L17, L18.
func TestOfBetween(t *testing.T) {
	for call, want := range map[string][]int{"B": {0, 2}, "b": {5}, "": {3}, "A": {6}, "A/": {1}, "é": {4}, "C": nil, " B": nil} {
		if l := logs.Of(oddLog(), call); !slices.Equal(l, want) {
			t.Error(call, l)
		}
	}
	for _, x := range []struct {
		lo, hi int
		want   []int
	}{{10, 20, []int{1, 2, 5}}, {20, 20, []int{2, 5}}, {11, 19, nil}, {30, 10, nil}, {21, 31, []int{0, 6}}, {least, most, []int{0, 1, 2, 3, 4, 5, 6}}, {most, most, []int{3}}, {least, 9, []int{4}}, {most, least, nil}} {
		if l := logs.Between(oddLog(), api.Span{Lo: x.lo, Hi: x.hi}); !slices.Equal(l, x.want) {
			t.Error(x, l)
		}
	}
	if len(logs.Of(api.Log{}, "")) > 0 || len(logs.Between(api.Log{}, api.Span{Lo: least, Hi: most})) > 0 {
		t.Error("no lines")
	}
}

// L19 to L21.
func TestColumns(t *testing.T) {
	if l := logs.Stations(oddLog()); !slices.Equal(l, []string{"", "A", "A/", "B", "b", "é"}) {
		t.Error(l)
	}
	if l := logs.Times(oddLog()); !slices.Equal(l, []int{30, 10, 20, most, least, 20, 31}) {
		t.Error(l)
	}
	if l := logs.Serials(oddLog()); !slices.Equal(l, []int{9, -1, 9, most, 0, 3, 3}) {
		t.Error(l)
	}
	if len(logs.Stations(api.Log{})) > 0 || len(logs.Times(api.Log{})) > 0 || len(logs.Serials(api.Log{})) > 0 {
		t.Error("no lines")
	}
}

// L22: logs are the same if all their fields are; nil and empty slices are the same.
func TestSame(t *testing.T) {
	if !logs.Same(oddLog(), oddLog()) || !logs.Same(api.Log{}, api.Log{Jumps: []int{}, Lines: []api.Line{}}) || !logs.Same(three(), copyOf(three())) {
		t.Error("not the same")
	}
	for i, c := range []func(*api.Log){
		func(l *api.Log) { l.Call += "X" }, func(l *api.Log) { l.Category++ }, func(l *api.Log) { l.Power++ }, func(l *api.Log) { l.Claimed++ },
		func(l *api.Log) { l.Jumps[1]++ }, func(l *api.Log) { l.Jumps = l.Jumps[:1] }, func(l *api.Log) { l.Jumps = append(l.Jumps, 0) }, func(l *api.Log) { l.Jumps = nil },
		func(l *api.Log) { l.Lines = l.Lines[:2] }, func(l *api.Log) { l.Lines = append(l.Lines, api.Line{}) }, func(l *api.Log) { l.Lines = nil }, func(l *api.Log) { slices.Reverse(l.Lines) },
		func(l *api.Log) { l.Lines[2].Num++ }, func(l *api.Log) { l.Lines[2].Khz++ }, func(l *api.Log) { l.Lines[2].Mode++ }, func(l *api.Log) { l.Lines[2].Minute++ }, func(l *api.Log) { l.Lines[2].Call = "" },
		func(l *api.Log) { l.Lines[2].Sent.Report++ }, func(l *api.Log) { l.Lines[2].Got.Serial++ }, func(l *api.Log) { l.Lines[2].Got.Zone++ },
	} {
		l := three()
		c(&l)
		if logs.Same(l, three()) || logs.Same(three(), l) {
			t.Error("the same:", i)
		}
	}
}

// P2.7: of valid logs.
func TestLookupPromise(t *testing.T) {
	r := rand.New(rand.NewPCG(2, 7))
	for range 200 {
		l := logOf()
		minute := 0
		for i := range r.IntN(30) {
			minute += r.IntN(4)
			x := lineAt(2*i+1+r.IntN(2), minute)
			x.Call = []string{"K1AA", "K1AB", "DL1XY", "K1AA/P"}[r.IntN(4)]
			l.Lines = append(l.Lines, x)
		}
		if !logs.ValidLog(some, l) {
			t.Fatal(l)
		}
		kept := copyOf(l)
		count := make([]int, len(l.Lines))
		for _, call := range logs.Stations(l) {
			for _, i := range logs.Of(l, call) {
				count[i]++
			}
		}
		for i, x := range l.Lines {
			if k, e := logs.Index(l, x.Num); k != i || e != api.OK || count[i] != 1 {
				t.Fatal(l, i, k, e, count[i])
			}
		}
		a, b, c := r.IntN(40)-2, r.IntN(40), r.IntN(40)
		b, c = a+b, a+b+c
		left, right := logs.Between(l, api.Span{Lo: a, Hi: b}), logs.Between(l, api.Span{Lo: b + 1, Hi: c})
		if whole := logs.Between(l, api.Span{Lo: a, Hi: c}); !slices.Equal(slices.Concat(left, right), whole) {
			t.Fatal(l, a, b, c, left, right, whole)
		}
		if !logs.Same(l, kept) {
			t.Fatal("the log is changed")
		}
	}
}
