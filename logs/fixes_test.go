package logs_test

import (
	"math/rand/v2"
	"slices"
	"testing"

	"pileup/api"
	"pileup/logs"
)

// drop, insert and change are short ways to write corrections.
func drop(num int) api.Fix      { return api.Fix{Kind: api.FixDrop, Num: num} }
func insert(x api.Line) api.Fix { return api.Fix{Kind: api.FixInsert, Num: x.Num, Line: x} }
func change(x api.Line) api.Fix { return api.Fix{Kind: api.FixChange, Num: x.Num, Line: x} }

// three is a log with the lines 3, 5 and 7.
func three() api.Log {
	l := logOf(lineAt(3, 10), lineAt(5, 20), lineAt(7, 30))
	l.Jumps = []int{4, 9}
	return l
}

// applied holds a log after corrections, and the corrections back, against what they should be.
func applied(t *testing.T, name string, l api.Log, fixes []api.Fix, want api.Log, back []api.Fix) {
	t.Helper()
	kept, fixesKept := copyOf(l), slices.Clone(fixes)
	m, e, k := logs.Apply(some, l, fixes)
	if !logs.Same(m, want) || e != api.OK || k != 0 {
		t.Error(name, m, e, k)
	}
	undo, e := logs.Invert(some, l, fixes)
	if !slices.Equal(undo, back) || e != api.OK {
		t.Error(name, "Invert", undo, e)
	}
	if again, e, k := logs.Apply(some, m, undo); !logs.Same(again, l) || e != api.OK || k != 0 {
		t.Error(name, "back", again, e, k)
	}
	if !logs.Same(l, kept) || !slices.Equal(fixes, fixesKept) {
		t.Error(name, "arguments are changed")
	}
}

// fails holds the error of corrections against what it should be.
func fails(t *testing.T, name string, l api.Log, fixes []api.Fix, at int) {
	t.Helper()
	kept := copyOf(l)
	if m, e, k := logs.Apply(some, l, fixes); !zeroLog(m) || e != api.ErrFix || k != at {
		t.Error(name, m, e, k, "want", at)
	}
	if undo, e := logs.Invert(some, l, fixes); len(undo) > 0 || e != api.ErrFix {
		t.Error(name, "Invert", undo, e)
	}
	if !logs.Same(l, kept) {
		t.Error(name, "the log is changed")
	}
}

// L13, L15: the examples, and corrections of each kind, one after the other.
func TestApply(t *testing.T) {
	applied(t, "example", exampleLog(), []api.Fix{drop(7)}, logOf(), []api.Fix{insert(exampleLine())})
	l := three()
	want := func(lines ...api.Line) api.Log {
		m := three()
		m.Lines = lines
		return m
	}
	x := l.Lines
	applied(t, "nothing", l, nil, l, nil)
	applied(t, "middle", l, []api.Fix{drop(5)}, want(x[0], x[2]), []api.Fix{insert(x[1])})
	applied(t, "first", l, []api.Fix{insert(lineAt(1, 0))}, want(lineAt(1, 0), x[0], x[1], x[2]), []api.Fix{drop(1)})
	applied(t, "between", l, []api.Fix{insert(lineAt(6, 20))}, want(x[0], x[1], lineAt(6, 20), x[2]), []api.Fix{drop(6)})
	applied(t, "last", l, []api.Fix{insert(lineAt(65535, 20000))}, want(x[0], x[1], x[2], lineAt(65535, 20000)), []api.Fix{drop(65535)})
	applied(t, "changed", l, []api.Fix{change(lineAt(5, 30))}, want(x[0], lineAt(5, 30), x[2]), []api.Fix{change(x[1])})
	applied(t, "changed to the same", l, []api.Fix{change(x[1])}, l, []api.Fix{change(x[1])})
	applied(t, "changed twice", l, []api.Fix{change(lineAt(5, 30)), change(lineAt(5, 11))}, want(x[0], lineAt(5, 11), x[2]), []api.Fix{change(lineAt(5, 30)), change(x[1])})
	applied(t, "dropped and inserted", l, []api.Fix{drop(5), insert(lineAt(5, 25)), drop(3)}, want(lineAt(5, 25), x[2]), []api.Fix{insert(x[0]), drop(5), insert(x[1])})
	applied(t, "inserted and dropped", l, []api.Fix{insert(lineAt(4, 20000)), drop(4)}, l, []api.Fix{insert(lineAt(4, 20000)), drop(4)})
	applied(t, "minutes fall in between", l, []api.Fix{change(lineAt(3, 40)), change(lineAt(7, 41)), change(lineAt(5, 40))}, want(lineAt(3, 40), lineAt(5, 40), lineAt(7, 41)),
		[]api.Fix{change(x[1]), change(x[2]), change(x[0])})
	applied(t, "401 lines in between", longLog(400), []api.Fix{insert(lineAt(401, 300)), drop(401)}, longLog(400), []api.Fix{insert(lineAt(401, 300)), drop(401)})
	applied(t, "empty", logOf(), []api.Fix{insert(exampleLine())}, exampleLog(), []api.Fix{drop(7)})
}

// L13, L15: corrections that cannot be applied, in the middle or only all together.
func TestApplyErrors(t *testing.T) {
	l := three()
	bad := []api.Fix{
		{}, {Kind: -1, Num: 5}, {Kind: 4, Num: 5}, {Kind: most, Num: 5}, {Kind: least, Num: 5}, {Num: 5}, {Num: 5, Line: lineAt(5, 20)},
		drop(4), drop(0), drop(-1), drop(most), drop(least), {Kind: api.FixDrop, Num: 5, Line: l.Lines[1]}, {Kind: api.FixDrop, Num: 5, Line: api.Line{Num: 5}},
		insert(l.Lines[1]), insert(lineAt(5, 25)), insert(lineAt(0, 25)), insert(lineAt(65536, 25)), insert(lineAt(6, -1)), insert(lineAt(6, 20001)), insert(api.Line{}),
		{Kind: api.FixInsert, Num: 6, Line: lineAt(4, 25)}, {Kind: api.FixInsert, Num: 5, Line: lineAt(6, 25)}, {Kind: api.FixInsert, Num: 6}, {Kind: api.FixInsert, Line: lineAt(6, 25)},
		change(lineAt(4, 20)), change(lineAt(5, -1)), change(lineAt(5, 20001)), change(api.Line{}), change(lineAt(65535, 1)),
		{Kind: api.FixChange, Num: 5, Line: lineAt(3, 10)}, {Kind: api.FixChange, Num: 5, Line: lineAt(6, 20)}, {Kind: api.FixChange, Num: 5}, {Kind: api.FixChange, Line: lineAt(5, 20)},
	}
	for _, x := range badLines() {
		if x.Num != exampleLine().Num {
			bad = append(bad, insert(x), change(x))
			continue
		}
		x.Num = 8
		bad = append(bad, insert(x))
		x.Num = 5
		bad = append(bad, change(x))
	}
	for _, f := range bad {
		fails(t, "alone", l, []api.Fix{f}, 0)
		fails(t, "ahead", l, []api.Fix{f, drop(99)}, 0)
		fails(t, "behind", l, []api.Fix{drop(3), insert(lineAt(3, 11)), f, drop(99)}, 2)
	}
	fails(t, "dropped twice", l, []api.Fix{drop(5), drop(5)}, 1)
	fails(t, "changed after a drop", l, []api.Fix{drop(5), change(lineAt(5, 20))}, 1)
	fails(t, "inserted twice", l, []api.Fix{insert(lineAt(6, 20)), insert(lineAt(6, 20))}, 1)
	fails(t, "minutes fall at the end", l, []api.Fix{change(lineAt(5, 9))}, 1)
	fails(t, "minutes fall at the end, behind others", l, []api.Fix{drop(3), insert(lineAt(3, 9)), insert(lineAt(9, 29))}, 3)
	fails(t, "401 lines", longLog(400), []api.Fix{insert(lineAt(401, 300))}, 1)
	fails(t, "401 lines again", longLog(400), []api.Fix{drop(5), insert(lineAt(5, 3)), insert(lineAt(500, 300)), change(lineAt(500, 301))}, 4)
}

// R7: a log after corrections shares no memory with the one before.
func TestApplyMemory(t *testing.T) {
	l := three()
	m, _, _ := logs.Apply(some, l, nil)
	m.Jumps[0], m.Lines[0].Num = 1, 1
	if !logs.Same(l, three()) {
		t.Error(l)
	}
}

// L14.
func TestDiff(t *testing.T) {
	a := three()
	x := a.Lines
	check := func(name string, b []api.Line, want ...api.Fix) {
		t.Helper()
		m := three()
		m.Lines = b
		if f, e := logs.Diff(some, a, m); !slices.Equal(f, want) || e != api.OK {
			t.Error(name, f, e)
		}
	}
	if f, e := logs.Diff(some, exampleLog(), logOf(lineAt(7, 80))); !slices.Equal(f, []api.Fix{change(lineAt(7, 80))}) || e != api.OK {
		t.Error(f, e)
	}
	check("same", x)
	check("none", nil, drop(3), drop(5), drop(7))
	check("others", []api.Line{lineAt(1, 1), lineAt(4, 15), lineAt(9, 50)}, insert(lineAt(1, 1)), drop(3), insert(lineAt(4, 15)), drop(5), drop(7), insert(lineAt(9, 50)))
	check("all kinds", []api.Line{x[0], lineAt(5, 21), lineAt(8, 30)}, change(lineAt(5, 21)), drop(7), insert(lineAt(8, 30)))
	check("more", append(slices.Clone(x), lineAt(8, 30), lineAt(9, 30)), insert(lineAt(8, 30)), insert(lineAt(9, 30)))
	if f, e := logs.Diff(some, logOf(), exampleLog()); !slices.Equal(f, []api.Fix{insert(exampleLine())}) || e != api.OK {
		t.Error(f, e)
	}
	for _, c := range []func(*api.Line){func(x *api.Line) { x.Khz++ }, func(x *api.Line) { x.Mode = api.Data }, func(x *api.Line) { x.Call = "K1ABD" },
		func(x *api.Line) { x.Sent.Serial++ }, func(x *api.Line) { x.Got.Report-- }} {
		y := exampleLine()
		c(&y)
		if f, e := logs.Diff(some, exampleLog(), logOf(y)); !slices.Equal(f, []api.Fix{change(y)}) || e != api.OK {
			t.Error(f, e)
		}
	}
}

// L14: logs that differ in other fields, and the order of the errors.
func TestDiffErrors(t *testing.T) {
	a := three()
	for _, c := range []func(*api.Log){func(l *api.Log) { l.Call = "DL1XX" }, func(l *api.Log) { l.Category = 2 }, func(l *api.Log) { l.Power = 5 }, func(l *api.Log) { l.Claimed = 0 },
		func(l *api.Log) { l.Jumps = nil }, func(l *api.Log) { l.Jumps = []int{4, 10} }, func(l *api.Log) { l.Jumps = []int{4, 9, 10} }} {
		b := three()
		c(&b)
		for _, x := range [][2]api.Log{{a, b}, {b, a}} {
			if f, e := logs.Diff(some, x[0], x[1]); len(f) > 0 || e != api.ErrArg {
				t.Error(f, e)
			}
		}
		bad := copyOf(b)
		bad.Power = 0
		for _, x := range [][2]api.Log{{a, bad}, {bad, a}, {longLog(401), bad}, {bad, longLog(401)}} {
			want, _ := logs.Check(some, x[0])
			if want == api.OK {
				want, _ = logs.Check(some, x[1])
			}
			if f, e := logs.Diff(some, x[0], x[1]); len(f) > 0 || e != want || e == api.ErrArg {
				t.Error(f, e, "want", want)
			}
		}
	}
	b := three()
	a.Jumps, b.Jumps = nil, []int{}
	if f, e := logs.Diff(some, a, b); len(f) > 0 || e != api.OK {
		t.Error("no jumps", f, e)
	}
}

// fewLines returns lines with some of the numbers 1 to 5 and few different values.
func fewLines(r *rand.Rand) []api.Line {
	var l []api.Line
	minute := 0
	for num := 1; num <= 5; num++ {
		minute += r.IntN(2)
		if r.IntN(3) > 0 {
			l = append(l, lineAt(num, minute))
		}
	}
	return l
}

// P2.6: Diff leads from the one log to the other one, with one correction of each line that differs, in any order; Invert leads back.
func TestFixPromise(t *testing.T) {
	r := rand.New(rand.NewPCG(2, 6))
	for range 3000 {
		a, b := logOf(fewLines(r)...), logOf(fewLines(r)...)
		fixes, e := logs.Diff(some, a, b)
		if e != api.OK || len(fixes) != differing(a, b) {
			t.Fatal(a, b, fixes, e)
		}
		if !slices.IsSortedFunc(fixes, func(x, y api.Fix) int { return x.Num - y.Num }) {
			t.Fatal(fixes)
		}
		r.Shuffle(len(fixes), func(i, k int) { fixes[i], fixes[k] = fixes[k], fixes[i] })
		after, e, k := logs.Apply(some, a, fixes)
		if !logs.Same(after, b) || e != api.OK || k != 0 {
			t.Fatal(a, b, fixes, after, e, k)
		}
		back, e := logs.Invert(some, a, fixes)
		before, f, _ := logs.Apply(some, b, back)
		if e != api.OK || f != api.OK || !logs.Same(before, a) || len(back) != len(fixes) {
			t.Fatal(a, b, fixes, back, e, f)
		}
	}
}

// differing returns how many Nums have different lines in two logs, or a line in one of them; each needs a correction of its own.
func differing(a, b api.Log) int {
	lines := map[int][2]api.Line{}
	for i, l := range []api.Log{a, b} {
		for _, x := range l.Lines {
			both := lines[x.Num]
			both[i] = x
			lines[x.Num] = both
		}
	}
	n := 0
	for _, both := range lines {
		if both[0] != both[1] {
			n++
		}
	}
	return n
}

// L13, L15: random corrections, one by one held against a plain list of lines.
func TestManyFixes(t *testing.T) {
	r := rand.New(rand.NewPCG(13, 15))
	for range 3000 {
		l := logOf(fewLines(r)...)
		lines := slices.Clone(l.Lines)
		var fixes, back []api.Fix
		failed := -1
		for n := range r.IntN(8) {
			x := lineAt(1+r.IntN(5), r.IntN(6))
			f := []api.Fix{drop(x.Num), insert(x), change(x)}[r.IntN(3)]
			fixes = append(fixes, f)
			i, has := slices.BinarySearchFunc(lines, x.Num, func(y api.Line, num int) int { return y.Num - num })
			switch {
			case has == (f.Kind == api.FixInsert):
				failed = n
			case f.Kind == api.FixInsert:
				lines, back = slices.Insert(lines, i, x), slices.Insert(back, 0, drop(x.Num))
			case f.Kind == api.FixDrop:
				back = slices.Insert(back, 0, insert(lines[i]))
				lines = slices.Delete(lines, i, i+1)
			default:
				back = slices.Insert(back, 0, change(lines[i]))
				lines[i] = x
			}
			if failed >= 0 {
				break
			}
		}
		switch {
		case failed >= 0:
			fails(t, "one", l, fixes, failed)
		case !logs.ValidLog(some, logOf(lines...)):
			fails(t, "all", l, fixes, len(fixes))
		default:
			applied(t, "none", l, fixes, logOf(lines...), back)
		}
	}
}
