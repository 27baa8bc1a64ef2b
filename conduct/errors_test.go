package conduct_test

import (
	"reflect"
	"slices"
	"strings"
	"testing"

	"pileup/api"
	"pileup/conduct"
	"pileup/readings"
)

// guilty returns a case whose first log breaches all rules that strict returns. Its line 6 is struck, and its line 7 is on no band; the own lines from 0 to 4 are refused.
func guilty() api.Case {
	c := example()
	l := append(c.Logs[0].Lines, qso(110, low, 7), qso(111, outside, 8))
	for i := range 5 {
		l[i].Call = "B1B"
	}
	c.Logs = []api.Log{log("A1A", l...), log("B1B", qso(60, low, 1))}
	c.Logs[0].Power = 200
	return struck(c, 6)
}

// strict returns the rules that guilty breaches.
func strict() api.Conduct {
	return ruled(func(k *api.Conduct) { k.Minutes, k.Share = 8, 49 })
}

// crowded returns a case with two more logs, in which so many lines of the one and the other may all be contacts.
func crowded(c api.Case, call, other string, n, m int) api.Case {
	c.Logs = append(slices.Clone(c.Logs), log(call, slices.Repeat([]api.Line{with(other, 700, 1, 1)}, n)...), log(other, slices.Repeat([]api.Line{with(call, 700, 1, 1)}, m)...))
	slices.SortFunc(c.Logs, func(a, b api.Log) int { return strings.Compare(a.Call, b.Call) })
	return c
}

// proofs returns lines that prove breaches of each kind in guilty.
func proofs() [][]int {
	return [][]int{nil, {0, 1}, {0, 1, 2, 3}, {0, 2, 4, 7}, {0, 1, 2, 3}, {2, 3}, nil}
}

// An args is the arguments of all functions.
type args struct {
	c                api.Case
	k                api.Conduct
	log, line, other int
	lines            []int
	kind             int
	f                api.Finding
}

// right returns arguments with which no function returns an error, for a kind.
func right(kind int) args {
	return args{guilty(), strict(), 0, 6, 0, []int{0, 3, 7}, kind, api.Finding{Kind: kind, Lines: proofs()[kind]}}
}

// A fault is what makes an argument wrong, and the error that tells it.
type fault struct {
	name string
	e    api.Errno
	make func(*args)
}

// faults returns all faults, in the order in which they are told.
func faults() []fault {
	return []fault{
		{"case", api.ErrCase, func(a *args) { a.c.Struck = []api.Ref{ref(9, 9)} }},
		{"rules", api.ErrConduct, func(a *args) { a.k.Share = 101 }},
		{"log", api.ErrArg, func(a *args) { a.log, a.f.Log = len(a.c.Logs), len(a.c.Logs) }},
		{"line", api.ErrArg, func(a *args) { a.line = 8 }},
		{"other", api.ErrArg, func(a *args) { a.other = -1 }},
		{"lines", api.ErrArg, func(a *args) { a.lines = []int{5, 6, 7} }},
		{"kind", api.ErrArg, func(a *args) { a.kind = 7 }},
		{"pairs", api.ErrLimit, func(a *args) { a.c = crowded(a.c, "X1X", "Y1Y", 80, 51) }},
		{"large", api.ErrLimit, func(a *args) { a.c = crowded(a.c, "V1V", "W1W", 7, 7) }},
		{"finding", api.ErrFinding, func(a *args) { a.f.Lines = []int{5, 6, 7} }},
		{"what", api.ErrFinding, func(a *args) { a.f.Kind = 7 }},
		{"none", api.ErrNone, acquit},
	}
}

// acquit changes arguments so that no breach is told.
func acquit(a *args) {
	a.k.Gap, a.k.Changes, a.k.Minutes, a.k.Share = 0, 400, 20000, 100
	a.k.Power = slices.Repeat([]int{9999}, 9)
	for i := range a.c.Logs[0].Lines {
		a.c.Logs[0].Lines[i].Sent.Serial = i + 1
	}
}

// A call is a function with the faults that it tells, and what it returns but for the error, for a kind.
type call struct {
	name, tells string
	kind        int
	run         func(a args) (any, api.Errno)
}

// calls returns all functions.
func calls() []call {
	l := []call{
		{"Own", "case log", 1, func(a args) (any, api.Errno) { x, e := conduct.Own(a.c, a.log); return x, e }},
		{"Sure", "case log line other", 1, func(a args) (any, api.Errno) { x, e := conduct.Sure(a.c, a.log, a.line, a.other); return x, e }},
		{"Signals", "case rules log", 1, func(a args) (any, api.Errno) { x, e := conduct.Signals(a.c, a.k, a.log); return x, e }},
		{"Changes", "case rules log none", 2, func(a args) (any, api.Errno) { x, e := conduct.Changes(a.c, a.k, a.log); return x, e }},
		{"OnAir", "case rules log lines", 3, func(a args) (any, api.Errno) { x, e := conduct.OnAir(a.c, a.k, a.log, a.lines); return x, e }},
		{"Minutes", "case rules log none", 3, func(a args) (any, api.Errno) { x, e := conduct.Minutes(a.c, a.k, a.log); return x, e }},
		{"Share", "case rules log pairs large none", 4, func(a args) (any, api.Errno) { x, e := conduct.Share(a.c, a.k, a.log); return x, e }},
		{"Serial", "case log none", 5, func(a args) (any, api.Errno) { x, e := conduct.Serial(a.c, a.log); return x, e }},
		{"Power", "case rules log none", 6, func(a args) (any, api.Errno) { x, e := conduct.Power(a.c, a.k, a.log); return x, e }},
		{"Find", "case rules log pairs large", 1, func(a args) (any, api.Errno) { x, e := conduct.Find(a.c, a.k, a.log); return x, e }},
		{"All", "case rules pairs large", 1, func(a args) (any, api.Errno) { x, e := conduct.All(a.c, a.k); return x, e }},
	}
	for kind := api.BreachSignals; kind <= api.BreachPower; kind++ {
		limit := ""
		if kind == api.BreachShare {
			limit = " pairs large"
		}
		l = append(l,
			call{"Check", "case rules log" + limit + " finding what", kind, func(a args) (any, api.Errno) { return 0, conduct.Check(a.c, a.k, a.f) }},
			call{"Needed", "case rules log" + limit + " finding what", kind, func(a args) (any, api.Errno) { x, e := conduct.Needed(a.c, a.k, a.f); return x, e }},
			call{"Fewest", "case rules log kind" + limit + " none", kind, func(a args) (any, api.Errno) { x, e := conduct.Fewest(a.c, a.k, a.kind, a.log); return x, e }},
		)
	}
	return l
}

// tells reports whether a function tells a fault.
func (f call) told(name string) bool { return slices.Contains(strings.Fields(f.tells), name) }

// isZero reports whether a result is zero; lists without elements are.
func isZero(x any) bool {
	v := reflect.ValueOf(x)
	return v.IsZero() || v.Kind() == reflect.Slice && v.Len() == 0
}

// Errors: each by itself, with each one that is told behind it, and with all of these.
func TestErrorsInOrder(t *testing.T) {
	all := faults()
	for _, f := range calls() {
		if x, e := f.run(right(f.kind)); e != api.OK || isZero(x) && f.name != "Check" && f.kind != api.BreachPower {
			t.Error(f.name, f.kind, x, e)
		}
		for i, first := range all {
			rest := slices.DeleteFunc(slices.Clone(all[i+1:]), func(x fault) bool {
				// A finding of no kind asks for no statuses.
				return !f.told(x.name) || x.name == "what" && first.e == api.ErrLimit
			})
			sets := [][]fault{{}, rest}
			for _, x := range rest {
				sets = append(sets, []fault{x})
			}
			for _, others := range sets {
				if !f.told(first.name) && len(others) > 0 {
					continue
				}
				a, want := right(f.kind), api.OK
				// What is told first is made last, so that it is not undone.
				for _, x := range slices.Backward(others) {
					x.make(&a)
				}
				first.make(&a)
				if f.told(first.name) {
					want = first.e
				}
				// Without breaches there is nothing that Check and Needed accept.
				if first.name == "none" && (f.name == "Check" || f.name == "Needed") {
					want = api.ErrFinding
				}
				if x, e := f.run(a); e != want || e != api.OK && !isZero(x) {
					t.Error(f.name, f.kind, first.name, len(others), x, e, "want", want)
				}
			}
		}
	}
}

// Errors: the cases that are too much for readings.Lines are so for the right reasons, and no other function minds.
func TestLimits(t *testing.T) {
	for i, x := range []struct {
		c    api.Case
		want api.Errno
	}{{crowded(guilty(), "X1X", "Y1Y", 80, 51), api.ErrLimit}, {crowded(guilty(), "X1X", "Y1Y", 80, 50), api.ErrLimit}, {crowded(guilty(), "X1X", "Y1Y", 7, 7), api.ErrLimit}, {crowded(guilty(), "X1X", "Y1Y", 6, 6), api.OK}, {crowded(guilty(), "X1X", "Y1Y", 2, 2), api.OK}} {
		_, e := readings.Lines(x.c)
		l, f := conduct.All(x.c, strict())
		found, g := conduct.Find(x.c, strict(), 0)
		if e != x.want || f != e || g != e || (len(l) == 0) != (e != api.OK) || (len(found) == 0) != (e != api.OK) {
			t.Error(i, e, l, f, found, g)
		}
		for kind, lines := range proofs()[1:] {
			kind++
			want := api.Finding{Kind: kind, Lines: lines}
			found, e := tell(x.c, strict(), kind, 0)
			if x.want != api.OK && kind == api.BreachShare {
				if e != api.ErrLimit || !sameFinding(found, api.Finding{}) {
					t.Error(i, found, e)
				}
			} else if e != api.OK || !sameFinding(found, want) {
				t.Error(i, found, e, "want", want)
			}
		}
	}
}

// Errors: cases and rules that are not valid otherwise.
func TestInvalid(t *testing.T) {
	for i, x := range []struct {
		make func(*args)
		e    api.Errno
	}{
		{func(a *args) { a.c.Contest.Bands = []api.Band{{}} }, api.ErrBands}, {func(a *args) { a.c.Contest.Table = []api.Prefix{{}} }, api.ErrTable}, {func(a *args) { a.c.Contest.Length = 0 }, api.ErrArg}, {func(a *args) { a.c.Contest.Slip = -1 }, api.ErrArg}, {func(a *args) { a.c = api.Case{} }, api.ErrArg},
		{func(a *args) { a.c.Logs = slices.Repeat(a.c.Logs, 33) }, api.ErrLimit}, {func(a *args) { a.c.Logs[1].Call = "A1A" }, api.ErrLog}, {func(a *args) { a.c.Logs[0].Category = 0 }, api.ErrLog}, {func(a *args) { a.c.Logs[0].Category = 10 }, api.ErrLog}, {func(a *args) { a.c.Logs[0].Lines[1].Minute = 59 }, api.ErrLog},
		{func(a *args) { a.c.Struck = []api.Ref{ref(0, 1), ref(0, 1)} }, api.ErrCase}, {func(a *args) { a.c.Struck = []api.Ref{ref(0, 8)} }, api.ErrCase}, {func(a *args) { a.c.Force = []api.Duo{duo(0, 6, 1, 0)} }, api.ErrCase}, {func(a *args) { a.c.Forbid = []api.Duo{duo(1, 0, 0, 0)} }, api.ErrCase},
		{func(a *args) { a.k = api.Conduct{} }, api.ErrConduct}, {func(a *args) { a.k.Gap = -1 }, api.ErrConduct}, {func(a *args) { a.k.Gap = 20001 }, api.ErrConduct}, {func(a *args) { a.k.Hour = 0 }, api.ErrConduct}, {func(a *args) { a.k.Changes = 401 }, api.ErrConduct}, {func(a *args) { a.k.Minutes = -1 }, api.ErrConduct}, {func(a *args) { a.k.Rest = 0 }, api.ErrConduct}, {func(a *args) { a.k.Share = 101 }, api.ErrConduct}, {func(a *args) { a.k.Power = a.k.Power[:8] }, api.ErrConduct}, {func(a *args) { a.k.Power[8] = 10000 }, api.ErrConduct},
	} {
		for _, f := range calls() {
			a := right(f.kind)
			x.make(&a)
			want := x.e
			if want == api.ErrConduct && !f.told("rules") {
				want = api.OK
			}
			if got, e := f.run(a); e != want || e != api.OK && !isZero(got) {
				t.Error(i, f.name, f.kind, got, e, "want", want)
			}
		}
	}
}

// Errors: numbers that are no index of a log, no line and no kind.
func TestWrongArguments(t *testing.T) {
	const most, least = int(^uint(0) >> 1), -int(^uint(0)>>1) - 1
	for _, n := range []int{-1, 8, most, least} {
		for _, f := range calls() {
			for name, make := range map[string]func(*args){
				"log": func(a *args) { a.log, a.f.Log = n, n }, "line": func(a *args) { a.line = n }, "other": func(a *args) { a.other = n }, "kind": func(a *args) { a.kind = n }, "lines": func(a *args) { a.lines = []int{n} }, "what": func(a *args) { a.f.Kind = n },
			} {
				a, want := right(f.kind), api.OK
				make(&a)
				switch {
				case f.told(name) && name == "what":
					want = api.ErrFinding
				case f.told(name):
					want = api.ErrArg
				}
				if x, e := f.run(a); e != want || e != api.OK && !isZero(x) {
					t.Error(f.name, f.kind, name, n, x, e, "want", want)
				}
			}
		}
	}
}
