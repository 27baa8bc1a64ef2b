package scores_test

import (
	"reflect"
	"slices"
	"strings"
	"testing"

	"pileup/api"
	"pileup/rules"
	"pileup/scores"
)

// An args is the arguments of all functions.
type args struct {
	c          api.Case
	b          api.Book
	r          []int
	log, other int
	line       api.Ref
}

// contested returns a case of three logs: D1A and K1B have a certain contact, the pair 0, and so many lines at some minutes that may all be contacts; and with K1B or K1C it has one more.
func contested(counts ...[2]int) api.Case {
	c := crossed(append([][2]int{{1, 1}}, counts...)...)
	a := append(c.Logs[0].Lines, qso(900, "K1D", 1, 1))
	b := append(c.Logs[1].Lines, qso(900, "D1A", 1, 1))
	return caseOf(log("D1A", a...), log("K1B", b...), log("K1C", qso(900, "D1A", 1, 1)))
}

// right returns arguments with which no function returns an error.
func right(t *testing.T) args {
	t.Helper()
	return args{contested(), book(t, "points: 0 = 0 => 1\nmultiplier: 0 = 0 => 1\n"), []int{0}, 1, 2, ref(1, 0)}
}

// A fault is what makes an argument wrong, and the error that tells it.
type fault struct {
	name string
	e    api.Errno
	make func(*args)
}

// faults returns all faults, in the order in which they are told.
func faults() []fault {
	always := api.Expr{Op: api.OpEqual, Kids: []api.Expr{{Op: api.OpNumber}, {Op: api.OpNumber}}}
	return []fault{
		{"case", api.ErrCase, func(a *args) { a.c.Struck = []api.Ref{ref(9, 9)} }},
		{"book", api.ErrBook, func(a *args) { a.b.Repeats = []api.Expr{always} }},
		{"pairs", api.ErrLimit, func(a *args) { a.c = contested([2]int{80, 51}) }},
		{"reading", api.ErrReading, func(a *args) { a.r = []int{api.MaxPairs} }},
		{"log", api.ErrArg, func(a *args) { a.log = 3 }},
		{"line", api.ErrArg, func(a *args) { a.line = ref(2, 1) }},
		{"other", api.ErrArg, func(a *args) { a.other = -1 }},
		{"large", api.ErrLimit, func(a *args) { a.c = contested([2]int{7, 7}) }},
		{"many", api.ErrLimit, func(a *args) { a.c = contested([2]int{1, 17}, [2]int{241, 1}) }},
		{"gap", api.ErrGap, func(a *args) { a.b.Points = nil }},
		{"rank", api.ErrRank, func(a *args) { a.b.Points = []api.Clause{{When: always, Then: api.Expr{Op: api.OpNumber}}} }},
	}
}

// A call is a function with the faults that it tells, and what it returns but for the error.
type call struct {
	name, tells string
	run         func(a args) ([]any, api.Errno)
}

// results returns the results of a call.
func results(x any, e api.Errno) ([]any, api.Errno) { return []any{x}, e }

// calls returns all functions.
func calls() []call {
	line, lines, bounds := "case pairs reading line", "case book pairs reading log", "case book pairs log large many gap"
	return []call{
		{"Facts", line, func(a args) ([]any, api.Errno) { x, e := scores.Facts(a.c, a.r, a.line); return results(x, e) }},
		{"Status", line, func(a args) ([]any, api.Errno) { x, e := scores.Status(a.c, a.r, a.line); return results(x, e) }},
		{"Counted", lines, func(a args) ([]any, api.Errno) { x, e := scores.Counted(a.c, a.b, a.log, a.r); return results(x, e) }},
		{"Keys", lines, func(a args) ([]any, api.Errno) { x, e := scores.Keys(a.c, a.b, a.log, a.r); return results(x, e) }},
		{"ScoreOf", lines + " gap", func(a args) ([]any, api.Errno) { x, e := scores.ScoreOf(a.c, a.b, a.log, a.r); return results(x, e) }},
		{"Credited", "case book pairs log large gap", func(a args) ([]any, api.Errno) { x, e := scores.Credited(a.c, a.b, a.log); return results(x, e) }},
		{"Joint", "case pairs large many", func(a args) ([]any, api.Errno) { x, e := scores.Joint(a.c); return results(x, e) }},
		{"Bounds", bounds, func(a args) ([]any, api.Errno) {
			x, y, e := scores.Bounds(a.c, a.b, a.log)
			return []any{x, y}, e
		}},
		{"Lowest", bounds, func(a args) ([]any, api.Errno) { x, e := scores.Lowest(a.c, a.b, a.log); return results(x, e) }},
		{"Highest", bounds, func(a args) ([]any, api.Errno) { x, e := scores.Highest(a.c, a.b, a.log); return results(x, e) }},
		{"Ranks", "case book pairs reading gap", func(a args) ([]any, api.Errno) { x, e := scores.Ranks(a.c, a.b, a.r); return results(x, e) }},
		{"RankSpan", bounds, func(a args) ([]any, api.Errno) { x, e := scores.RankSpan(a.c, a.b, a.log); return results(x, e) }},
		{"Beats", bounds + " other", func(a args) ([]any, api.Errno) {
			x, e := scores.Beats(a.c, a.b, a.log, a.other)
			return results(x, e)
		}},
		{"Hinge", bounds + " rank", func(a args) ([]any, api.Errno) { x, e := scores.Hinge(a.c, a.b, a.log); return results(x, e) }},
		{"Table", "case book pairs large many gap", func(a args) ([]any, api.Errno) { x, e := scores.Table(a.c, a.b); return results(x, e) }},
	}
}

// isZero reports whether a result is zero; lists without elements are.
func isZero(x any) bool {
	v := reflect.ValueOf(x)
	return v.IsZero() || v.Kind() == reflect.Slice && v.Len() == 0
}

// Errors: each by itself, with each one that is told behind it, and with all of these.
func TestErrorsInOrder(t *testing.T) {
	all := faults()
	for _, f := range calls() {
		if l, e := f.run(right(t)); e != api.OK || slices.ContainsFunc(l, isZero) {
			t.Error(f.name, l, e)
		}
		tells := func(x fault) bool { return slices.Contains(strings.Fields(f.tells), x.name) }
		for i, first := range all {
			lists := [][]fault{{}, all[i+1:]}
			for _, x := range all[i+1:] {
				lists = append(lists, []fault{x})
			}
			for _, others := range lists {
				if !tells(first) && len(others) > 0 {
					continue
				}
				a, want := right(t), api.OK
				// What is told first is made last, so that it is not undone.
				for _, x := range slices.Backward(others) {
					x.make(&a)
				}
				first.make(&a)
				if tells(first) {
					want = first.e
				}
				l, e := f.run(a)
				if e != want || e != api.OK && !reflect.DeepEqual(filter(l, isZero), l) {
					t.Error(f.name, first.name, len(others), l, e, "want", want)
				}
			}
		}
	}
}

// filter returns the elements of a list that are of a kind.
func filter(l []any, is func(any) bool) []any {
	return slices.DeleteFunc(slices.Clone(l), func(x any) bool { return !is(x) })
}

// Errors: cases that are not valid otherwise, books that are not, and those with too many clauses.
func TestInvalid(t *testing.T) {
	number := api.Expr{Op: api.OpNumber}
	for i, x := range []struct {
		make func(*args)
		e    api.Errno
	}{
		{func(a *args) { a.c.Contest.Bands = []api.Band{{}} }, api.ErrBands}, {func(a *args) { a.c.Contest.Table = []api.Prefix{{}} }, api.ErrTable}, {func(a *args) { a.c.Contest.Length = 0 }, api.ErrArg}, {func(a *args) { a.c.Contest.Pardon = -1 }, api.ErrArg},
		{func(a *args) { a.c.Logs = slices.Repeat(a.c.Logs, 22) }, api.ErrLimit}, {func(a *args) { a.c.Logs[2].Call = "K1B" }, api.ErrLog}, {func(a *args) { a.c.Logs[0].Power = 0 }, api.ErrLog}, {func(a *args) { a.c.Logs[0].Lines[0].Minute = -1 }, api.ErrLog},
		{func(a *args) { a.c.Force = []api.Duo{duo(1, 0, 0, 0)} }, api.ErrCase}, {func(a *args) { a.c.Force = []api.Duo{duo(0, 0, 1, 0)}; a.c.Forbid = a.c.Force }, api.ErrCase}, {func(a *args) { a.c.Struck = []api.Ref{ref(0, 0), ref(0, 0)} }, api.ErrCase}, {func(a *args) { a.c = api.Case{} }, api.ErrArg},
		{func(a *args) { a.b.Points = []api.Clause{{}} }, api.ErrBook}, {func(a *args) { a.b.Multipliers = []api.Clause{{When: number, Then: number}} }, api.ErrBook}, {func(a *args) { a.b.Penalties = []api.Clause{{}} }, api.ErrBook}, {func(a *args) { a.b.Repeats = slices.Repeat([]api.Expr{number}, api.MaxClauses+1) }, api.ErrBook},
	} {
		for _, f := range calls() {
			a := right(t)
			x.make(&a)
			l, e := f.run(a)
			want := x.e
			if want == api.ErrBook && !strings.Contains(f.tells, "book") {
				want = api.OK
			}
			if e != want || e != api.OK && len(filter(l, isZero)) != len(l) {
				t.Error(i, f.name, l, e, "want", want)
			}
		}
	}
	many := book(t, strings.Repeat("points: 0 = 0 => 1\nmultiplier: 0 = 0 => 1\npenalty: 0 = 0 => 1\nrepeat: band\n", api.MaxClauses))
	if !rules.Valid(many) {
		t.Fatal(many)
	}
	if x, e := scores.ScoreOf(contested(), many, 1, []int{0}); x != (api.Score{Points: 1, Multipliers: 64, Penalty: 1, Total: 63}) || e != api.OK {
		t.Error(x, e)
	}
}

// Errors: what is no reading, no index of a log and no line.
func TestWrongArguments(t *testing.T) {
	const most, least = int(^uint(0) >> 1), -int(^uint(0)>>1) - 1
	forced := contested()
	forced.Force = []api.Duo{duo(0, 1, 2, 0)}
	forbidden := contested()
	forbidden.Forbid = []api.Duo{duo(0, 1, 2, 0)}
	for i, x := range []struct {
		c api.Case
		r []int
		e api.Errno
	}{
		{contested(), nil, api.OK}, {contested(), []int{0, 1}, api.OK}, {contested(), []int{2}, api.OK}, {contested(), []int{3}, api.OK}, {contested(), []int{4}, api.ErrReading}, {contested(), []int{2, 3}, api.ErrReading}, {contested(), []int{-1}, api.ErrReading}, {contested(), []int{1, 0}, api.ErrReading}, {contested(), []int{0, 0}, api.ErrReading}, {contested(), []int{1, 2}, api.ErrReading}, {contested(), []int{most}, api.ErrReading}, {contested(), []int{least}, api.ErrReading}, {contested(), make([]int, 5000), api.ErrReading},
		{forced, nil, api.ErrReading}, {forced, []int{2}, api.OK}, {forced, []int{0, 2}, api.OK}, {forced, []int{1}, api.ErrReading}, {forbidden, nil, api.OK}, {forbidden, []int{2}, api.ErrReading}, {forbidden, []int{1}, api.OK},
	} {
		for _, f := range calls() {
			if !strings.Contains(f.tells, "reading") {
				continue
			}
			a := right(t)
			a.c, a.r = x.c, x.r
			if l, e := f.run(a); e != x.e {
				t.Error(i, f.name, l, e, "want", x.e)
			}
		}
	}
	for _, n := range []int{-1, 3, most, least} {
		for _, f := range calls() {
			for _, change := range []struct {
				tells string
				make  func(*args)
			}{{"log", func(a *args) { a.log = n }}, {"other", func(a *args) { a.other = n }}, {"line", func(a *args) { a.line = ref(n, 0) }}, {"line", func(a *args) { a.line = ref(0, n) }}} {
				a := right(t)
				change.make(&a)
				l, e := f.run(a)
				if tells := slices.Contains(strings.Fields(f.tells), change.tells); tells != (e == api.ErrArg) || !tells && e != api.OK {
					t.Error(f.name, change.tells, n, l, e)
				}
			}
		}
	}
}
