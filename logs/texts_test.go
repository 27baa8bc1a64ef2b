package logs_test

import (
	"math/rand/v2"
	"strings"
	"testing"

	"pileup/api"
	"pileup/logs"
)

// exampleLines are the lines of the text of the example's log.
func exampleLines() []string {
	return []string{"CALL DL1XY", "CATEGORY 1", "POWER 100", "CLAIMED 20", "JUMPS", "QSO 7 14025 M 1 0115 K1ABC > 599 012 < 599 003", "END"}
}

// textOf is a text of lines that are all ended.
func textOf(lines ...string) string {
	if len(lines) == 0 {
		return ""
	}
	return strings.Join(lines, "\n") + "\n"
}

// with is the lines of the example with the one at an index replaced by others.
func with(at int, lines ...string) []string {
	l := exampleLines()
	return append(append(l[:at:at], lines...), l[at+1:]...)
}

// parseFails holds an error of Parse against the one that it should be.
func parseFails(t *testing.T, s string, want api.Errno, at int) {
	t.Helper()
	if l, e, k := logs.Parse(some, s); !zeroLog(l) || e != want || k != at {
		t.Errorf("%.300q %v %v want %v %v", s, e, k, want, at)
	}
}

// L6, L7: the example, and the greatest and least logs.
func TestPrint(t *testing.T) {
	many := api.Log{Call: "F/G3ABC/P", Category: 9, Power: 9999, Claimed: 1000000, Jumps: []int{1, 20, 20000}}
	for _, x := range []struct {
		l    api.Log
		want string
	}{
		{exampleLog(), textOf(exampleLines()...)},
		{many, "CALL F/G3ABC/P\nCATEGORY 9\nPOWER 9999\nCLAIMED 1000000\nJUMPS 1 20 20000\nEND\n"},
		{api.Log{Call: "A1A", Category: 1, Power: 1}, "CALL A1A\nCATEGORY 1\nPOWER 1\nCLAIMED 0\nJUMPS\nEND\n"},
	} {
		if s, e := logs.Print(some, x.l); s != x.want || e != api.OK {
			t.Errorf("%q %v", s, e)
		}
		if l, e, k := logs.Parse(some, x.want); !logs.Same(l, x.l) || e != api.OK || k != 0 {
			t.Error(l, e, k)
		}
	}
}

// L7: header lines that do not follow, as their values are not valid, or they come in the wrong order.
func TestParseHeaders(t *testing.T) {
	for at, values := range [][]string{
		{"CALL", "CALL ", "CALL DL1", "CALL dl1xy", "call DL1XY", "CALL  DL1XY", "CALL DL1XY ", " CALL DL1XY", "CALL DL1XY P", "CALLDL1XY", "CALL\tDL1XY", "CALL DL1XY\r", "CALLS DL1XY", "DL1XY", ""},
		{"CATEGORY", "CATEGORY ", "CATEGORY 0", "CATEGORY 10", "CATEGORY 01", "CATEGORY +1", "CATEGORY -1", "CATEGORY 1 ", "CATEGORY  1", "CATEGORY 1 1", "category 1", "CATEGORY x", "CATEGORY 18446744073709551617", "POWER 1", "CALL DL1XY"},
		{"POWER", "POWER ", "POWER 0", "POWER 10000", "POWER 0100", "POWER -5", "POWER 1.5", "POWER 100 W", "CLAIMED 20", "CATEGORY 1", "POWER 1_0"},
		{"CLAIMED", "CLAIMED ", "CLAIMED -1", "CLAIMED -0", "CLAIMED 00", "CLAIMED 1000001", "CLAIMED 020", "CLAIMED 9223372036854775808", "JUMPS"},
		{"JUMPS ", "JUMPS 0", "JUMPS 20001", "JUMPS 5 5", "JUMPS 5 4", "JUMPS 05", "JUMPS 1  2", "JUMPS 1 2 ", "JUMPS  1", "JUMPS -1", "JUMPS 1 x", "JUMPS 1 2 3 4 5 6 7 8 9 10 11 12 13 14 15 16 17", "JUMP", "END", exampleLines()[5]},
	} {
		for _, s := range values {
			parseFails(t, textOf(with(at, s)...), api.ErrText, at+1)
		}
		parseFails(t, textOf(with(at)...), api.ErrText, at+1)
		parseFails(t, textOf(with(at, exampleLines()[at], exampleLines()[at])...), api.ErrText, at+2)
	}
	for k := range 6 {
		parseFails(t, textOf(with(5, exampleLines()[5], exampleLines()[k])...), api.ErrText, 7)
		parseFails(t, textOf(exampleLines()[k+1:]...), api.ErrText, 1)
	}
	if l, e, _ := logs.Parse(some, textOf(with(4, "JUMPS 1 2 3 4 5 6 7 8 9 10 11 12 13 14 15 20000")...)); e != api.OK || len(l.Jumps) != 16 || l.Jumps[15] != 20000 {
		t.Error(l, e)
	}
}

// L7: lines that do not follow behind the header, unended lines, and a missing end.
func TestParseErrors(t *testing.T) {
	parseFails(t, textOf(exampleLines()[:6]...), api.ErrText, 7)
	parseFails(t, textOf(with(2)...), api.ErrText, 3)
	parseFails(t, "", api.ErrText, 1)
	parseFails(t, "\n", api.ErrText, 1)
	parseFails(t, "\n\n\n", api.ErrText, 1)
	parseFails(t, "CALL DL1XY", api.ErrText, 1)
	parseFails(t, "CALL DL1XY\n", api.ErrText, 2)
	parseFails(t, "\xff\n", api.ErrText, 1)
	parseFails(t, " "+textOf(exampleLines()...), api.ErrText, 1)
	parseFails(t, textOf(exampleLines()...)+"\n", api.ErrText, 8)
	parseFails(t, textOf(exampleLines()...)+"\nx", api.ErrText, 8)
	parseFails(t, textOf(exampleLines()...)+"END\n", api.ErrText, 8)
	parseFails(t, textOf(exampleLines()...)+"END", api.ErrText, 8)
	parseFails(t, strings.Join(exampleLines(), "\r\n")+"\r\n", api.ErrText, 1)
	for _, s := range []string{"", "end", "END ", " END", "ENDE", "END\r", "QSO", "CALL DL1XY", "JUMPS"} {
		parseFails(t, textOf(with(6, s)...), api.ErrText, 7)
		parseFails(t, textOf(with(6, s, "END")...), api.ErrText, 7)
	}
	for _, s := range []string{lineText(7, 75), lineText(6, 75), lineText(8, 74), lineText(0, 75), lineText(7, 76)} {
		parseFails(t, textOf(with(6, s, "END")...), api.ErrText, 7)
	}
	for k := range 7 {
		parseFails(t, strings.TrimSuffix(textOf(exampleLines()[:k+1]...), "\n"), api.ErrText, k+1)
		if k < 6 {
			parseFails(t, textOf(exampleLines()[:k+1]...), api.ErrText, k+2)
		}
	}
	if l, e, k := logs.Parse(some, textOf(with(6, lineText(8, 75), lineText(65535, 20000), "END")...)); len(l.Lines) != 3 || e != api.OK || k != 0 {
		t.Error(l, e, k)
	}
}

// lineText is the text of the example's line with another number and another minute; it may be a line that is not valid.
func lineText(num, minute int) string {
	if num == 0 {
		return strings.Replace(lineText(1, minute), "QSO 1 ", "QSO 0 ", 1)
	}
	s, _ := logs.PrintLine(some, lineAt(num, minute))
	return s
}

// L7: the contact line 401, and texts that are too long.
func TestParseLimits(t *testing.T) {
	whole, _ := logs.Print(some, longLog(400))
	if l, e, k := logs.Parse(some, whole); !logs.Same(l, longLog(400)) || e != api.OK || k != 0 {
		t.Error(e, k)
	}
	begin := strings.TrimSuffix(whole, "END\n")
	for _, x := range []struct {
		rest string
		e    api.Errno
		at   int
	}{
		{lineText(401, 200) + "\n", api.ErrLimit, 406},
		{lineText(401, 200) + "\nEND\n", api.ErrLimit, 406},
		{lineText(401, 200) + "\nx", api.ErrLimit, 406},
		{lineText(401, 200) + "\n" + lineText(402, 200) + "\nEND\n", api.ErrLimit, 406},
		{lineText(401, 200), api.ErrText, 406},
		{lineText(400, 200) + "\nEND\n", api.ErrText, 406},
		{lineText(401, 198) + "\nEND\n", api.ErrText, 406},
		{lineText(0, 200) + "\nEND\n", api.ErrText, 406},
		{"x\n" + lineText(401, 200) + "\nEND\n", api.ErrText, 406},
		{"", api.ErrText, 406},
		{"END\n" + lineText(401, 200) + "\n", api.ErrText, 407},
	} {
		parseFails(t, begin+x.rest, x.e, x.at)
	}
	parseFails(t, strings.Repeat("x", 65536), api.ErrText, 1)
	parseFails(t, strings.Repeat("x", 65537), api.ErrLimit, 0)
	parseFails(t, strings.Repeat("\n", 65537), api.ErrLimit, 0)
	parseFails(t, textOf(exampleLines()...)+strings.Repeat(" ", 65536), api.ErrLimit, 0)
	parseFails(t, textOf(exampleLines()...)+strings.Repeat(" ", 65536-len(textOf(exampleLines()...))), api.ErrText, 8)
}

// P2.2: printing and parsing undo each other, for each layout.
func TestTextPromise(t *testing.T) {
	r := rand.New(rand.NewPCG(2, 20))
	for _, o := range layouts() {
		for range 60 {
			l := anyLog(r, o, r.IntN(20))
			kept := copyOf(l)
			s, e := logs.Print(o, l)
			m, f, k := logs.Parse(o, s)
			if e != api.OK || f != api.OK || k != 0 || !logs.Same(l, m) || !logs.Same(l, kept) {
				t.Fatal(o, l, e, m, f, k)
			}
			checkSpoilt(t, r, o, s)
		}
	}
}

// checkSpoilt changes bytes of a text: either it is not read, or it is printed as it is. P2.3: what follows after the line of the error changes nothing.
func checkSpoilt(t *testing.T, r *rand.Rand, o api.Layout, s string) {
	const bytes = "0123456789 ><-MVDA/a\t\nED"
	for range 30 {
		b := []byte(s)
		b[r.IntN(len(b))] = bytes[r.IntN(len(bytes))]
		text := string(b)
		l, e, k := logs.Parse(o, text)
		back, f := logs.Print(o, l)
		if e == api.OK && (f != api.OK || back != text || k != 0) {
			t.Fatalf("%q %q %v", text, back, f)
		}
		if e == api.OK {
			continue
		}
		if e != api.ErrText || !zeroLog(l) {
			t.Fatalf("%q %v %v", text, l, e)
		}
		lines := strings.SplitAfter(text, "\n")
		for _, behind := range []string{"", "\n", "END\n", "x", s} {
			upTo := strings.Join(lines[:min(k, len(lines))], "")
			if _, e, n := logs.Parse(o, upTo+behind); upTo != text && (e != api.ErrText || n != k) {
				t.Fatalf("%q %q %v %v want %v", upTo, behind, e, n, k)
			}
		}
	}
}
