package logs_test

import (
	"math/rand/v2"
	"slices"
	"strings"
	"testing"

	"pileup/api"
	"pileup/logs"
)

// insertTexts are the texts that a repair can insert.
func insertTexts() []string {
	return []string{"CATEGORY 1", "POWER 1", "CLAIMED 0", "JUMPS", "END"}
}

// stepCost is the cost of a step of a kind.
func stepCost(kind int) int { return [...]int{0, 0, 1, 4, 6}[kind] }

// stepsOf reads steps from words: keep, fold, drop, or else a text that is inserted.
func stepsOf(words ...string) []api.Mend {
	var l []api.Mend
	at := 0
	for _, w := range words {
		kind := slices.Index([]string{"", "keep", "fold", "drop"}, w)
		if kind < 1 {
			l = append(l, api.Mend{Kind: api.MendInsert, At: at, Text: w})
			continue
		}
		l = append(l, api.Mend{Kind: kind, At: at})
		at++
	}
	return l
}

// words is n times a word.
func words(n int, w string) []string { return slices.Repeat([]string{w}, n) }

// L8.
func TestFold(t *testing.T) {
	for s, want := range map[string]string{
		"":                        "",
		" ":                       "",
		"\t\r \r\t":               "",
		"\tqso  7":                "QSO 7",
		"azAZ":                    "AZAZ",
		"`{@[":                    "`{@[",
		"  a  b  ":                "A B",
		"a\t\tb\rc \t d\r":        "A B C D",
		"a\nb":                    "A\nB",
		" \n ":                    "\n",
		"a\n  b":                  "A\n B",
		"a\vb\fc\u00a0d\u3000":    "A\vB\fC\u00a0D\u3000",
		"äöß":                     "äöß",
		"\xff a\xfe \xc3":         "\xff A\xfe \xc3",
		"\x00a\x00":               "\x00A\x00",
		"qso 7 14025 m 1 0115\r":  "QSO 7 14025 M 1 0115",
		"dl1xy/p > 599 < 599\t\t": "DL1XY/P > 599 < 599",
	} {
		if got := logs.Fold(s); got != want {
			t.Errorf("%q %q want %q", s, got, want)
		}
	}
}

// P2.4: folding twice is folding once, for all kinds of bytes.
func TestFoldPromise(t *testing.T) {
	r := rand.New(rand.NewPCG(2, 4))
	for range 3000 {
		var b []byte
		for range r.IntN(12) {
			b = append(b, " \t\raZ\n\xff\xc3\xa4"[r.IntN(9)], byte(r.IntN(256)))
		}
		once := logs.Fold(string(b))
		if twice := logs.Fold(once); twice != once || strings.ContainsAny(once, "\t\r") || strings.Contains(once, "  ") || once != strings.Trim(once, " ") {
			t.Fatalf("%q %q %q", b, once, twice)
		}
		if strings.Count(once, "\n") != strings.Count(string(b), "\n") {
			t.Fatalf("%q %q", b, once)
		}
	}
}

// repairIs holds a repair of a text against the one that it should be.
func repairIs(t *testing.T, name, s, want string, steps []api.Mend, cost int) {
	t.Helper()
	text, l, c, e := logs.Repair(some, s)
	if text != want || !slices.Equal(l, steps) || c != cost || e != api.OK {
		t.Errorf("%s: %q %v %v %v", name, text, l, c, e)
	}
	if text, e := logs.Mended(s, steps); text != want || e != api.OK {
		t.Errorf("%s: Mended %q %v", name, text, e)
	}
	if c, e := logs.CheckRepair(some, s, steps); c != cost || e != api.OK {
		t.Errorf("%s: CheckRepair %v %v", name, c, e)
	}
	for n, is := range map[int]bool{cost: true, cost + 1: false, cost - 1: true, 0: true, -5: true, least: true, most: false} {
		if ok, e := logs.Least(some, s, n); ok != is || e != api.OK {
			t.Errorf("%s: Least %v %v %v", name, n, ok, e)
		}
	}
}

// L9 to L12: the examples, and each kind of step.
func TestRepair(t *testing.T) {
	whole := textOf(exampleLines()...)
	repairIs(t, "nothing", whole, whole, stepsOf(words(7, "keep")...), 0)
	repairIs(t, "unended", strings.TrimSuffix(whole, "\n"), whole, stepsOf(words(7, "keep")...), 0)
	repairIs(t, "example", "CALL DL1XY\nCATEGORY 1\nCLAIMED 20\nJUMPS\n"+exampleLines()[5]+"\nend\n", textOf(with(2, "POWER 1")...),
		[]api.Mend{{Kind: api.MendKeep}, {Kind: api.MendKeep, At: 1}, {Kind: api.MendInsert, At: 2, Text: "POWER 1"}, {Kind: api.MendKeep, At: 2},
			{Kind: api.MendKeep, At: 3}, {Kind: api.MendKeep, At: 4}, {Kind: api.MendFold, At: 5}}, 7)
	repairIs(t, "returns", strings.ReplaceAll(whole, "\n", "\r\n"), whole, stepsOf(words(7, "fold")...), 7)
	repairIs(t, "small letters", strings.ToLower(whole), whole, stepsOf("fold", "fold", "fold", "fold", "fold", "fold", "fold"), 7)
	repairIs(t, "only a call", " call\tdl1xy", "CALL DL1XY\nCATEGORY 1\nPOWER 1\nCLAIMED 0\nJUMPS\nEND\n", stepsOf(append([]string{"fold"}, insertTexts()...)...), 31)
	repairIs(t, "empty lines", "\n\n"+whole+"\n", whole, stepsOf("drop", "drop", "keep", "keep", "keep", "keep", "keep", "keep", "keep", "drop"), 12)
	repairIs(t, "no end", textOf(exampleLines()[:6]...), whole, stepsOf("keep", "keep", "keep", "keep", "keep", "keep", "END"), 6)
	for at, insert := range []string{"CATEGORY 1", "POWER 1", "CLAIMED 0", "JUMPS"} {
		steps := slices.Insert(words(6, "keep"), at+1, insert)
		repairIs(t, insert, textOf(with(at+1)...), textOf(with(at+1, insert)...), stepsOf(steps...), 6)
	}
	repairIs(t, "end ahead of a line", textOf(append(exampleLines()[:5], "END", lineText(7, 75))...), textOf(append(exampleLines()[:5], "END")...), stepsOf("keep", "keep", "keep", "keep", "keep", "keep", "drop"), 4)
	repairIs(t, "end ahead of lines", textOf(with(5, "END", lineText(7, 75), lineText(8, 75))...), textOf(with(5, lineText(7, 75), lineText(8, 75))...),
		stepsOf("keep", "keep", "keep", "keep", "keep", "drop", "keep", "keep", "keep"), 4)
	repairIs(t, "end ahead of three lines", textOf(append(exampleLines()[:5], "END", lineText(1, 1), lineText(2, 1), lineText(3, 1))...),
		textOf(append(exampleLines()[:5], lineText(1, 1), lineText(2, 1), lineText(3, 1), "END")...), stepsOf("keep", "keep", "keep", "keep", "keep", "drop", "keep", "keep", "keep", "END"), 10)
}

// L9: of several repairs of the least cost the one with the lesser kind at their first difference.
func TestRepairTies(t *testing.T) {
	head, kept := exampleLines()[:5], words(5, "keep")
	body := func(lines ...string) string { return textOf(append(slices.Clone(head), lines...)...) }
	steps := func(l ...string) []api.Mend { return stepsOf(append(slices.Clone(kept), l...)...) }
	a, b := lineText(5, 10), lineText(3, 9)
	repairIs(t, "two calls", textOf(with(0, "CALL K1AA", "CALL DL1XY")...), textOf(with(0, "CALL K1AA")...), stepsOf(append([]string{"keep", "drop"}, words(6, "keep")...)...), 4)
	repairIs(t, "drop, then insert", textOf(with(2, "POWER x")...), textOf(with(2, "POWER 1")...), stepsOf("keep", "keep", "drop", "POWER 1", "keep", "keep", "keep", "keep"), 10)
	repairIs(t, "wrong order", textOf("CALL DL1XY", "POWER 100", "CATEGORY 2", "CLAIMED 20", "JUMPS", "END"), "CALL DL1XY\nCATEGORY 2\nPOWER 1\nCLAIMED 20\nJUMPS\nEND\n",
		stepsOf("keep", "drop", "keep", "POWER 1", "keep", "keep", "keep"), 10)
	repairIs(t, "lines that cross", body(a, b, "END"), body(a, "END"), steps("keep", "drop", "keep"), 4)
	repairIs(t, "lines that cross, folded", body(" "+a, b+" ", "END"), body(a, "END"), steps("fold", "drop", "keep"), 5)
	repairIs(t, "first folded", body(" "+a, b, "END"), body(b, "END"), steps("drop", "keep", "keep"), 4)
	repairIs(t, "pairs that cross", body(lineText(3, 1), lineText(4, 1), lineText(1, 1), lineText(2, 1), "END"), body(lineText(3, 1), lineText(4, 1), "END"), steps("keep", "keep", "drop", "drop", "keep"), 8)
	repairIs(t, "one against two", body(lineText(5, 1), lineText(3, 1), lineText(4, 1), "END"), body(lineText(3, 1), lineText(4, 1), "END"), steps("drop", "keep", "keep", "keep"), 4)
	repairIs(t, "minutes against numbers", body(lineText(3, 9), lineText(4, 8), lineText(5, 8), "END"), body(lineText(4, 8), lineText(5, 8), "END"), steps("drop", "keep", "keep", "keep"), 4)
	repairIs(t, "same minute", body(lineText(3, 9), lineText(4, 9), "END"), body(lineText(3, 9), lineText(4, 9), "END"), steps("keep", "keep", "keep"), 0)
	repairIs(t, "junk, no end", body(a, "x"), body(a, "END"), steps("keep", "drop", "END"), 10)
	repairIs(t, "early end", body("END", lineText(1, 1), " "+lineText(2, 1), " "+lineText(3, 1)), body("END"), steps("keep", "drop", "drop", "drop"), 12)
	repairIs(t, "two ends", body("END", "END"), body("END"), steps("keep", "drop"), 4)
	repairIs(t, "two ends, folded", body(" end", "END"), body("END"), steps("drop", "keep"), 4)
	repairIs(t, "two ends, both folded", body(" end", "end"), body("END"), steps("fold", "drop"), 5)
}

// L9 to L12: texts that no repair mends, and texts beyond the limits.
func TestRepairErrors(t *testing.T) {
	fails := func(name, s string, want api.Errno) {
		t.Helper()
		if text, l, c, e := logs.Repair(some, s); text != "" || len(l) > 0 || c != 0 || e != want {
			t.Errorf("%s: %q %v %v %v", name, text, l, c, e)
		}
		for _, n := range []int{least, 0, 1, 100000, most} {
			if ok, e := logs.Least(some, s, n); ok != (want == api.ErrRepair) || (e == api.OK) != ok || !ok && e != want {
				t.Error(name, "Least", n, ok, e)
			}
		}
	}
	fails("empty", "", api.ErrRepair)
	fails("no call", textOf(exampleLines()[1:]...), api.ErrRepair)
	fails("bad call", textOf(with(0, "CALL DL1")...), api.ErrRepair)
	fails("CALL alone", "CALL\n", api.ErrRepair)
	fails("400 empty lines", strings.Repeat("\n", 400), api.ErrRepair)
	fails("long line", strings.Repeat("x", 65536), api.ErrRepair)
	whole := textOf(exampleLines()...)
	for _, s := range []string{strings.Repeat("\n", 401), whole + strings.Repeat("x\n", 394), whole + strings.Repeat("\n", 393) + "x", strings.Repeat("x", 65537), whole + strings.Repeat(" ", 65537-len(whole)), strings.Repeat("x\n", 40000)} {
		fails("limit", s, api.ErrLimit)
		for _, l := range [][]api.Mend{nil, {{}}, stepsOf(words(401, "drop")...)} {
			if text, e := logs.Mended(s, l); text != "" || e != api.ErrLimit {
				t.Error("Mended", text, e)
			}
			if c, e := logs.CheckRepair(some, s, l); c != 0 || e != api.ErrLimit {
				t.Error("CheckRepair", c, e)
			}
		}
	}
	full := whole + strings.Repeat("x\n", 393)
	repairIs(t, "400 lines", full, whole, stepsOf(append(words(7, "keep"), words(393, "drop")...)...), 393*4)
	full = whole + strings.Repeat(" ", 65536-len(whole))
	repairIs(t, "65536 bytes", full, whole, stepsOf(append(words(7, "keep"), "drop")...), 4)
	for _, o := range []api.Layout{none, every} {
		if _, l, c, e := logs.Repair(o, whole); c != 4 || e != api.OK || l[5].Kind != api.MendDrop {
			t.Error(o, l, c, e)
		}
	}
}

// L10, L11: lists that are no repairs, and repairs that do not succeed.
func TestMended(t *testing.T) {
	s := "CALL DL1XY\n  a\tb\nEND"
	good := stepsOf("keep", "fold", "keep")
	for _, x := range []struct {
		l    []api.Mend
		want string
	}{
		{good, "CALL DL1XY\nA B\nEND\n"},
		{stepsOf("keep", "keep", "keep"), "CALL DL1XY\n  a\tb\nEND\n"},
		{stepsOf("drop", "drop", "drop"), ""},
		{stepsOf("END", "END", "drop", "CLAIMED 0", "CATEGORY 1", "fold", "POWER 1", "drop", "JUMPS", "JUMPS"), "END\nEND\nCLAIMED 0\nCATEGORY 1\nA B\nPOWER 1\nJUMPS\nJUMPS\n"},
	} {
		if text, e := logs.Mended(s, x.l); text != x.want || e != api.OK {
			t.Errorf("%v %q %v", x.l, text, e)
		}
		if c, e := logs.CheckRepair(some, s, x.l); c != 0 || e != api.ErrRepair {
			t.Error(x.l, c, e)
		}
	}
	bad := [][]api.Mend{nil, good[:1], good[:2], good[1:], stepsOf("keep", "keep", "keep", "keep"), stepsOf("keep", "fold", "CALL DL1XY", "keep"), stepsOf("keep", "fold", "", "keep"),
		stepsOf("keep", "fold", "end", "keep"), stepsOf("keep", "fold", "END\n", "keep"), stepsOf("keep", "fold", "POWER 2", "keep"), stepsOf("END")}
	spoil := func(at int, change func(m *api.Mend)) {
		l := stepsOf("keep", "JUMPS", "fold", "drop", "END")
		change(&l[at])
		bad = append(bad, l)
	}
	for at := range 5 {
		for _, n := range []int{-1, 4, most, least} {
			spoil(at, func(m *api.Mend) { m.At = n })
		}
		spoil(at, func(m *api.Mend) { m.At++ })
		spoil(at, func(m *api.Mend) { m.At-- })
		for _, n := range []int{0, -1, 5, most, least} {
			spoil(at, func(m *api.Mend) { m.Kind = n })
		}
		spoil(at, func(m *api.Mend) { m.Text += "x" })
		spoil(at, func(m *api.Mend) { m.Text = "CALL DL1XY" })
	}
	for _, at := range []int{0, 2, 3} {
		spoil(at, func(m *api.Mend) { m.Text = "JUMPS" })
		spoil(at, func(m *api.Mend) { m.Kind = api.MendInsert })
	}
	for _, l := range bad {
		if text, e := logs.Mended(s, l); text != "" || e != api.ErrRepair {
			t.Errorf("%v %q %v", l, text, e)
		}
		if c, e := logs.CheckRepair(some, s, l); c != 0 || e != api.ErrRepair {
			t.Error(l, c, e)
		}
	}
	if text, e := logs.Mended("", nil); text != "" || e != api.OK {
		t.Errorf("%q %v", text, e)
	}
	if c, e := logs.CheckRepair(some, "", nil); c != 0 || e != api.ErrRepair {
		t.Error(c, e)
	}
	if text, e := logs.Mended("", stepsOf("END")); text != "END\n" || e != api.OK {
		t.Errorf("%q %v", text, e)
	}
	long := stepsOf(words(20000, "JUMPS")...)
	if c, e := logs.CheckRepair(some, "", long); c != 0 || e != api.ErrRepair {
		t.Error(c, e)
	}
}

// A search goes through the repairs of a text in their order.
type search struct {
	lines []string
	steps []api.Mend
	text  string
}

// first looks for the first repair that costs just so much and succeeds, behind the steps that are there.
func (f *search) first(at, cost int) bool {
	_, e, k := logs.Parse(some, f.text)
	if at == len(f.lines) && cost == 0 && e == api.OK {
		return true
	}
	// By P2.3 nothing that follows mends a line that is wrong.
	if e != api.OK && k <= strings.Count(f.text, "\n") {
		return false
	}
	try := func(m api.Mend, text string, next int) bool {
		if stepCost(m.Kind) > cost {
			return false
		}
		kept := f.text
		f.steps, f.text = append(f.steps, m), kept+text
		if f.first(next, cost-stepCost(m.Kind)) {
			return true
		}
		f.steps, f.text = f.steps[:len(f.steps)-1], kept
		return false
	}
	if at < len(f.lines) {
		if try(api.Mend{Kind: api.MendKeep, At: at}, f.lines[at]+"\n", at+1) ||
			try(api.Mend{Kind: api.MendFold, At: at}, logs.Fold(f.lines[at])+"\n", at+1) ||
			try(api.Mend{Kind: api.MendDrop, At: at}, "", at+1) {
			return true
		}
	}
	for _, text := range insertTexts() {
		if try(api.Mend{Kind: api.MendInsert, At: at, Text: text}, text+"\n", at) {
			return true
		}
	}
	return false
}

// spoilt returns lines of a text after some damage.
func spoilt(r *rand.Rand, l []string) []string {
	l = slices.Clone(l)
	for range r.IntN(6) {
		if len(l) == 0 {
			return l
		}
		i, k := r.IntN(len(l)), r.IntN(len(l))
		switch r.IntN(7) {
		case 0:
			l = slices.Delete(l, i, i+1)
		case 1:
			l = slices.Insert(l, i, l[k])
		case 2:
			l[i], l[k] = l[k], l[i]
		case 3:
			l[i] = strings.ToLower(l[i])
		case 4:
			l[i] = strings.Replace(l[i], " ", "\t ", 1) + "\r"
		case 5:
			l[i] = l[i][:len(l[i])/2]
		case 6:
			l = slices.Insert(l, i, []string{"", "END", "end", "POWER 5", "category 2", "JUMPS 4 3", "CALL K1AA", lineText(1+r.IntN(9), r.IntN(9))}[r.IntN(8)])
		}
	}
	return l
}

// P2.5: of all repairs of spoilt texts the first one of those that cost least.
func TestRepairPromise(t *testing.T) {
	r := rand.New(rand.NewPCG(2, 5))
	failed := 0
	for range 250 {
		lines := exampleLines()[:5]
		for i := range r.IntN(4) {
			lines = append(lines, lineText(i+1, i/2))
		}
		lines = spoilt(r, append(lines, "END"))
		if !slices.ContainsFunc(lines, func(s string) bool { return slices.Contains([]string{"CALL DL1XY", "CALL K1AA"}, logs.Fold(s)) }) {
			failed++
			if _, _, _, e := logs.Repair(some, textOf(lines...)); e != api.ErrRepair {
				t.Fatal(lines, e)
			}
			continue
		}
		f := search{lines: lines}
		cost := 0
		for !f.first(0, cost) {
			cost++
		}
		s := textOf(lines...)
		repairIs(t, s, s, f.text, f.steps, cost)
		_, e, _ := logs.Parse(some, s)
		if l, f, _ := logs.Parse(some, f.text); f != api.OK || !logs.ValidLog(some, l) || (cost == 0) != (e == api.OK) {
			t.Fatalf("%q %v %v %v", s, cost, e, f)
		}
		if t.Failed() {
			return
		}
	}
	if failed == 0 || failed > 60 {
		t.Error("texts without a call:", failed)
	}
}

// P2.5: a text with many lines whose numbers and minutes rise and fall keeps as many of them as can be kept.
func TestLongRepair(t *testing.T) {
	r := rand.New(rand.NewPCG(5, 2))
	for range 5 {
		var lines []api.Line
		s := textOf(exampleLines()[:5]...)
		for i := range 394 {
			x := lineAt(1+i+r.IntN(300), i+r.IntN(300))
			lines = append(lines, x)
			s += lineText(x.Num, x.Minute) + "\n"
		}
		s += "END\n"
		best, chain := 0, make([]int, len(lines))
		for i, x := range lines {
			for k, y := range lines[:i] {
				if y.Num < x.Num && y.Minute <= x.Minute {
					chain[i] = max(chain[i], chain[k])
				}
			}
			chain[i]++
			best = max(best, chain[i])
		}
		text, steps, cost, e := logs.Repair(some, s)
		l, f, _ := logs.Parse(some, text)
		if e != api.OK || f != api.OK || len(l.Lines) != best || cost != 4*(len(lines)-best) {
			t.Error(len(l.Lines), cost, e, f, "want", best)
		}
		if c, e := logs.CheckRepair(some, s, steps); c != cost || e != api.OK {
			t.Error(c, e)
		}
	}
}
