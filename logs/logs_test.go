package logs_test

import (
	"slices"
	"strings"
	"testing"

	"pileup/api"
	"pileup/logs"
)

// some is the layout of the chapter's examples, none has no parts, and every has all of them.
var (
	some  = api.Layout{Report: true, Serial: true}
	none  = api.Layout{}
	every = api.Layout{Report: true, Serial: true, Zone: true}
)

const (
	most  = 1<<63 - 1
	least = -1 << 63
)

// exampleLine is the line x of the chapter's examples.
func exampleLine() api.Line {
	return api.Line{Num: 7, Khz: 14025, Mode: api.Morse, Minute: 75, Call: "K1ABC",
		Sent: api.Exchange{Report: 599, Serial: 12}, Got: api.Exchange{Report: 599, Serial: 3}}
}

// exampleLog is the log l of the chapter's examples.
func exampleLog() api.Log {
	return api.Log{Call: "DL1XY", Category: 1, Power: 100, Claimed: 20, Lines: []api.Line{exampleLine()}}
}

// lineAt is the example's line with another number and another minute.
func lineAt(num, minute int) api.Line {
	x := exampleLine()
	x.Num, x.Minute = num, minute
	return x
}

// logOf is the example's log with other lines.
func logOf(lines ...api.Line) api.Log {
	l := exampleLog()
	l.Lines = lines
	return l
}

// longLog is the example's log with n lines.
func longLog(n int) api.Log {
	l := logOf()
	for i := range n {
		l.Lines = append(l.Lines, lineAt(i+1, i/2))
	}
	return l
}

// copyOf is a log that shares no memory with l.
func copyOf(l api.Log) api.Log {
	l.Jumps = slices.Clone(l.Jumps)
	l.Lines = slices.Clone(l.Lines)
	return l
}

// zeroLog reports whether all fields of a log are zero.
func zeroLog(l api.Log) bool {
	return l.Call == "" && l.Category == 0 && l.Power == 0 && l.Claimed == 0 && len(l.Jumps) == 0 && len(l.Lines) == 0
}

// badLines are lines that are not valid for the layout of the examples.
func badLines() []api.Line {
	var l []api.Line
	add := func(change func(x *api.Line)) {
		x := exampleLine()
		change(&x)
		l = append(l, x)
	}
	for _, n := range []int{0, -1, 65536, most, least} {
		add(func(x *api.Line) { x.Num = n })
	}
	for _, n := range []int{0, -1, 10000001, most, least} {
		add(func(x *api.Line) { x.Khz = n })
	}
	for _, n := range []int{0, -1, 4, most, least} {
		add(func(x *api.Line) { x.Mode = n })
	}
	for _, n := range []int{-1, 20001, most, least} {
		add(func(x *api.Line) { x.Minute = n })
	}
	for _, s := range []string{"", "k1abc", "K1 ABC", "K1ABC ", "K1-ABC", "K1Ä", "K1\xff", "K1\n", "K1\x00", "-", ">", "<", strings.Repeat("A", 17), strings.Repeat("Ä", 3)} {
		add(func(x *api.Line) { x.Call = s })
	}
	for _, y := range []api.Exchange{{}, {Report: 599}, {Serial: 1}, {Report: 600, Serial: 1}, {Report: 1, Serial: 100000}, {Report: 1, Serial: 1, Zone: 1}, {Report: -1, Serial: 1}} {
		add(func(x *api.Line) { x.Sent = y })
		add(func(x *api.Line) { x.Got = y })
	}
	return append(l, api.Line{})
}

// L1.
func TestValidLine(t *testing.T) {
	full := api.Exchange{Report: 599, Serial: 99999, Zone: 99}
	for i, x := range []struct {
		o api.Layout
		x api.Line
	}{
		{some, exampleLine()},
		{every, api.Line{Num: 65535, Khz: 10000000, Mode: api.Data, Minute: 20000, Call: "ABCDEFGHIJKLMNOP", Sent: full, Got: full}},
		{none, api.Line{Num: 1, Khz: 1, Mode: api.Voice, Minute: 0, Call: "/"}},
		{none, api.Line{Num: 1, Khz: 1, Mode: api.Morse, Minute: 0, Call: "QRSTUVWXYZ012345"}},
		{none, api.Line{Num: 1, Khz: 1, Mode: api.Morse, Minute: 0, Call: "6789//"}},
	} {
		if !logs.ValidLine(x.o, x.x) {
			t.Error("not valid:", i)
		}
	}
	for i, x := range badLines() {
		if logs.ValidLine(some, x) {
			t.Error("valid:", i, x)
		}
	}
	if logs.ValidLine(none, exampleLine()) || logs.ValidLine(every, exampleLine()) {
		t.Error("valid for another layout")
	}
}

// badHeaders are logs that are not valid, but for no line; and with ErrLog.
func badHeaders() []api.Log {
	var l []api.Log
	add := func(change func(x *api.Log)) {
		x := exampleLog()
		change(&x)
		l = append(l, x)
	}
	for _, s := range []string{"", "DL1", "dl1xy", "DL1XY ", "K1ABC/W1A", "DL1XY\n", "/"} {
		add(func(x *api.Log) { x.Call = s })
	}
	for _, n := range []int{0, -1, 10, most, least} {
		add(func(x *api.Log) { x.Category = n })
	}
	for _, n := range []int{0, -1, 10000, most, least} {
		add(func(x *api.Log) { x.Power = n })
	}
	for _, n := range []int{-1, 1000001, most, least} {
		add(func(x *api.Log) { x.Claimed = n })
	}
	for _, n := range [][]int{{0}, {-1}, {20001}, {5, 5}, {5, 4}, {1, 2, 20001}, {0, 1}, {1, 3, 2}, {most}, {least}, {most, least}} {
		add(func(x *api.Log) { x.Jumps = n })
	}
	return append(l, api.Log{})
}

// manyJumps are n jumps.
func manyJumps(n int) []int {
	var l []int
	for i := range n {
		l = append(l, i+1)
	}
	return l
}

// checkIs holds what Check and ValidLog say against what they should say.
func checkIs(t *testing.T, name string, o api.Layout, l api.Log, want api.Errno, at int) {
	t.Helper()
	if e, k := logs.Check(o, l); e != want || k != at {
		t.Error(name, e, k, "want", want, at)
	}
	if logs.ValidLog(o, l) != (want == api.OK) {
		t.Error(name, "ValidLog")
	}
	if want == api.OK {
		return
	}
	// L6, L13 to L15 begin with the error of Check.
	if s, e := logs.Print(o, l); s != "" || e != want {
		t.Error(name, "Print", s, e)
	}
	if m, e, k := logs.Apply(o, l, []api.Fix{{}}); !zeroLog(m) || e != want || k != 0 {
		t.Error(name, "Apply", m, e, k)
	}
	if f, e := logs.Invert(o, l, []api.Fix{{}}); len(f) > 0 || e != want {
		t.Error(name, "Invert", f, e)
	}
	if f, e := logs.Diff(o, l, logOf()); len(f) > 0 || e != want {
		t.Error(name, "Diff", f, e)
	}
	if f, e := logs.Diff(o, logOf(), l); len(f) > 0 || e != want {
		t.Error(name, "Diff", f, e)
	}
}

// L2, L3: what makes a log valid, and the errors in their order.
func TestCheck(t *testing.T) {
	checkIs(t, "example", some, exampleLog(), api.OK, 0)
	checkIs(t, "no lines", some, logOf(), api.OK, 0)
	checkIs(t, "400 lines", some, longLog(400), api.OK, 0)
	edge := longLog(2)
	edge.Call, edge.Category, edge.Power, edge.Claimed, edge.Jumps = "F/G3ABC/P", 9, 9999, 1000000, manyJumps(16)
	checkIs(t, "greatest", some, edge, api.OK, 0)
	edge.Call, edge.Category, edge.Power, edge.Claimed, edge.Jumps = "A1A", 1, 1, 0, []int{1, 20000}
	checkIs(t, "least", some, edge, api.OK, 0)
	for _, l := range badHeaders() {
		checkIs(t, "header", some, l, api.ErrLog, 0)
		l.Lines = []api.Line{lineAt(0, 0)}
		checkIs(t, "header and line", some, l, api.ErrLog, 0)
		if len(l.Jumps) == 0 {
			l.Jumps = manyJumps(17)
			checkIs(t, "header and jumps", some, l, api.ErrLimit, 0)
		}
		l.Jumps, l.Lines = nil, longLog(401).Lines
		checkIs(t, "header and lines", some, l, api.ErrLimit, 0)
	}
	for _, x := range badLines() {
		checkIs(t, "only line", some, logOf(x), api.ErrLog, 1)
		checkIs(t, "third line", some, logOf(lineAt(1, 75), lineAt(2, 75), x, lineAt(0, 0)), api.ErrLog, 3)
	}
	checkIs(t, "same Num", some, logOf(lineAt(3, 5), lineAt(3, 5)), api.ErrLog, 2)
	checkIs(t, "lesser Num", some, logOf(lineAt(3, 5), lineAt(4, 5), lineAt(2, 6)), api.ErrLog, 3)
	checkIs(t, "same Minute", some, logOf(lineAt(3, 5), lineAt(4, 5)), api.OK, 0)
	checkIs(t, "lesser Minute", some, logOf(lineAt(3, 5), lineAt(4, 4)), api.ErrLog, 2)
	checkIs(t, "other layout", none, exampleLog(), api.ErrLog, 1)
	checkIs(t, "401 lines", some, longLog(401), api.ErrLimit, 0)
	late := longLog(400)
	late.Lines[399].Minute = 0
	checkIs(t, "line 400", some, late, api.ErrLog, 400)
}
