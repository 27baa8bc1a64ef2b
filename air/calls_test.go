package air_test

import (
	"strings"
	"testing"

	"pileup/air"
	"pileup/api"
)

// parts is a short way to write the parts of a call sign.
func parts(area, prefix, suffix, stroke string) api.Parts {
	return api.Parts{Area: area, Prefix: prefix, Suffix: suffix, Stroke: stroke}
}

// A4 to A7: call signs of all forms with their parts.
func TestSplit(t *testing.T) {
	for s, want := range map[string]api.Parts{
		"W1AW":             parts("", "W1", "AW", ""),
		"DL/W1AW":          parts("DL", "W1", "AW", ""),
		"W1AW/4":           parts("", "W1", "AW", "4"),
		"G3/M0AB/P":        parts("G3", "M0", "AB", "P"),
		"3DA0RS":           parts("", "3DA0", "RS", ""),
		"W1AW/DL1ABC":      parts("W1AW", "DL1", "ABC", ""),
		"DL1A/P":           parts("", "DL1", "A", "P"),
		"F/G3ABC/P":        parts("F", "G3", "ABC", "P"),
		"A1A":              parts("", "A1", "A", ""),
		"1A1A":             parts("", "1A1", "A", ""),
		"A111Z":            parts("", "A111", "Z", ""),
		"ABC0WXYZ":         parts("", "ABC0", "WXYZ", ""),
		"ABC9WXYZ/QRPP":    parts("", "ABC9", "WXYZ", "QRPP"),
		"Z/A1A":            parts("Z", "A1", "A", ""),
		"1A/A1A":           parts("1A", "A1", "A", ""),
		"A1A/B1AB":         parts("A1A", "B1", "AB", ""),
		"ABCD/W1A/0":       parts("ABCD", "W1", "A", "0"),
		"A111/A1A/9":       parts("A111", "A1", "A", "9"),
		"W1AW/W1A/P":       parts("W1AW", "W1", "A", "P"),
		"ABCD/W1A/P":       parts("ABCD", "W1", "A", "P"),
		"ABC/DL1ABCD/QRPP": parts("ABC", "DL1", "ABCD", "QRPP"),
	} {
		if p, e := air.Split(s); p != want || e != api.OK {
			t.Error("Split", s, p, e)
		}
		if !air.ValidCall(s) {
			t.Error("ValidCall", s)
		}
		if back, e := air.Join(want); back != s || e != api.OK {
			t.Error("Join", s, back, e)
		}
		if b, e := air.Base(s); b != want.Prefix+want.Suffix || e != api.OK {
			t.Error("Base", s, b, e)
		}
	}
}

// badCalls returns texts that are no call signs.
func badCalls() []string {
	return []string{
		"", "/", "//", "///", "A", "1", "ABC", "12A", "123", "W1", "A1", "1A", "111A",
		"W1ABCDE", "ABCD1E", "A1111B", "w1aw", "W1aw", "w1AW", "W1-A", "W1 A", " W1AW", "W1AW ", "W1AW\n", "\x00W1AW",
		"W1ÄA", "Ä1AA", "W1A\xff", "Ⅰ1A", "W١A",
		"DL1A/W1A", "W1AW/W2AW", "DL/W1", "W1AW/12", "W1AW/", "/W1AW", "W1AW//", "//W1AW", "DL//W1AW", "W1AW//P",
		"W1AW/ABCDE", "W1AW/1A", "W1AW/A1", "W1AW/p", "W1AW/-", "12/W1AW", "1/W1AW", "ABCDE/W1ABCD", "dl/W1AW", "D-/W1AW",
		"P/DL1", "DL/W1AW/", "/W1AW/P", "DL/W1AW/12", "DL/W1AW/1A", "1/W1AW/P", "DL/ABC/P", "DL/W1AW/P/4", "DL/W1AW/P/", "/DL/W1AW/P",
		"ABCDE/W1ABCD/P", "DL/W1AW/ABCDE",
		"ABCD/DL1ABCD/QRPP", "ABCD/ABC1ABC/QRPP", strings.Repeat("A", 17), strings.Repeat("/", 1000), strings.Repeat("W1AW", 1000),
	}
}

// A4 to A9 with texts that are no call signs.
func TestBadCalls(t *testing.T) {
	for _, s := range badCalls() {
		if air.ValidCall(s) {
			t.Errorf("ValidCall %q", s)
		}
		if p, e := air.Split(s); p != (api.Parts{}) || e != api.ErrCall {
			t.Errorf("Split %q %v %v", s, p, e)
		}
		if b, e := air.Base(s); b != "" || e != api.ErrCall {
			t.Errorf("Base %q %v %v", s, b, e)
		}
		if p, e := air.PrefixOf(s); p != "" || e != api.ErrCall {
			t.Errorf("PrefixOf %q %v %v", s, p, e)
		}
		for _, x := range [][2]string{{s, "W1AW"}, {"W1AW", s}, {s, s}} {
			if ok, e := air.Same(x[0], x[1]); ok || e != api.ErrCall {
				t.Errorf("Same %q %v %v", x, ok, e)
			}
		}
	}
}

// A6: parts that are not those of a call sign.
func TestBadParts(t *testing.T) {
	for _, p := range []api.Parts{
		{},
		parts("W1A", "W1", "A", ""),
		parts("W1AW", "W1", "A", ""),
		parts("ABCD", "W1", "AW", ""),
		parts("", "W1A", "W", ""),
		parts("", "W", "1AW", ""),
		parts("", "W1AW", "", ""),
		parts("", "", "W1AW", ""),
		parts("", "DL/W1", "AW", ""),
		parts("", "W1", "AW/P", ""),
		parts("DL/W1AW", "", "", ""),
		parts("DL", "W1", "AW/P", ""),
		parts("G3/M0AB", "", "", "P"),
		parts("W1AW", "", "", "P"),
		parts("DL", "W1", "AW", "12"),
		parts("DL", "W1", "AW", "p"),
		parts("1", "W1", "AW", ""),
		parts("", "12", "A", ""),
		parts("", "W1", "", ""),
		parts("DL", "", "", ""),
		parts("", "", "", "P"),
		parts("ABCD", "DL1", "ABCD", "QRPP"),
		parts(strings.Repeat("A", 100), "W1", "AW", ""),
	} {
		if s, e := air.Join(p); s != "" || e != api.ErrCall {
			t.Errorf("%q %q %v", p, s, e)
		}
	}
}

// A8.
func TestSame(t *testing.T) {
	for _, x := range []struct {
		a, b string
		same bool
	}{
		{"W1AW", "W1AW", true},
		{"DL/W1AW", "W1AW/4", true},
		{"DL/W1AW/P", "W1AW", true},
		{"W1AW", "W1AX", false},
		{"W1AW", "W2AW", false},
		{"W1AW/P", "W1AX/P", false},
		{"DL/W1AW", "DL/W1AX", false},
		{"W1AW/DL1ABC", "W1AW", false},
		{"W1AW/DL1ABC", "DL1ABC", true},
	} {
		if ok, e := air.Same(x.a, x.b); ok != x.same || e != api.OK {
			t.Error(x, ok, e)
		}
	}
}

// A9.
func TestPrefixOf(t *testing.T) {
	for s, want := range map[string]string{
		"W1AW":       "W1",
		"W1AW/4":     "W4",
		"W1AW/0":     "W0",
		"DL/W1AW":    "DL0",
		"W1AW/P":     "W1",
		"W1AW/QRPP":  "W1",
		"3D2/W1AW":   "3D2",
		"3D/W1AW":    "3D0",
		"3DA0RS":     "3DA0",
		"3DA0RS/7":   "3DA7",
		"A11B/2":     "A12",
		"1A1B/2":     "1A2",
		"F/G3ABC/P":  "F0",
		"F/G3ABC/7":  "F0",
		"F6/G3AB/7":  "F6",
		"ABCD/W1A/P": "ABCD0",
	} {
		if p, e := air.PrefixOf(s); p != want || e != api.OK {
			t.Error(s, p, e)
		}
	}
}

// texts returns all texts of some characters, of n of them.
func texts(chars string, n int) []string {
	l := []string{""}
	for range n {
		var longer []string
		for _, s := range l {
			for _, c := range chars {
				longer = append(longer, s+string(c))
			}
		}
		l = longer
	}
	return l
}

// upTo returns all texts of some characters, of at least lo and at most hi of them.
func upTo(chars string, lo, hi int) []string {
	var l []string
	for n := lo; n <= hi; n++ {
		l = append(l, texts(chars, n)...)
	}
	return l
}

// allCalls returns all call signs of the characters A, 1 and / with their parts, put together as the chapter's forms say.
func allCalls() map[string]api.Parts {
	calls := map[string]api.Parts{}
	add := func(s string, p api.Parts) {
		if len(s) <= api.MaxCall {
			calls[s] = p
		}
	}
	var areas []string
	for _, a := range upTo("A1", 1, 4) {
		if strings.Contains(a, "A") {
			areas = append(areas, a)
		}
	}
	strokes := append(upTo("A", 1, 4), "1")
	for _, prefix := range areas {
		if !strings.HasSuffix(prefix, "1") {
			continue
		}
		for _, suffix := range upTo("A", 1, 4) {
			base := prefix + suffix
			add(base, parts("", prefix, suffix, ""))
			for _, s := range strokes {
				add(base+"/"+s, parts("", prefix, suffix, s))
			}
			for _, a := range areas {
				if len(a) < len(base) {
					add(a+"/"+base, parts(a, prefix, suffix, ""))
				}
				for _, s := range strokes {
					add(a+"/"+base+"/"+s, parts(a, prefix, suffix, s))
				}
			}
		}
	}
	return calls
}

// A4, A5: of all texts of up to 10 of the characters A, 1 and / just those are call signs that the forms give.
func TestAllTexts(t *testing.T) {
	calls := allCalls()
	for _, s := range upTo("A1/", 0, 10) {
		want, ok := calls[s]
		if air.ValidCall(s) != ok {
			t.Error("ValidCall", s, !ok)
		}
		p, e := air.Split(s)
		if p != want || (e == api.OK) != ok || !ok && e != api.ErrCall {
			t.Error("Split", s, p, e)
		}
	}
}

// P1.3, P1.4: for all call signs of the characters A, 1 and /.
func TestCallPromises(t *testing.T) {
	for s, want := range allCalls() {
		p, e := air.Split(s)
		back, f := air.Join(p)
		if p != want || e != api.OK || back != s || f != api.OK {
			t.Error("Split and Join", s, p, e, back, f)
		}
		base, e := air.Base(s)
		own, f := air.Base(base)
		if base != want.Prefix+want.Suffix || e != api.OK || !air.ValidCall(base) || own != base || f != api.OK {
			t.Error("Base", s, base, e, own, f)
		}
		prefix, e := air.PrefixOf(s)
		if e != api.OK || !strings.HasSuffix(prefix, "0") && !strings.HasSuffix(prefix, "1") || !strings.Contains(prefix, "A") {
			t.Error("PrefixOf", s, prefix, e)
		}
		if want.Area == "" && want.Stroke != "1" && prefix != want.Prefix {
			t.Error("PrefixOf", s, prefix)
		}
	}
}

// P1.3: Same is an equivalence: two call signs are the same if and only if their bases are.
func TestSamePromise(t *testing.T) {
	l := []string{"W1AW", "W1AW/4", "DL/W1AW", "DL/W1AW/4", "W1AX", "W1AX/P", "W2AW", "W1AW/DL1ABC", "DL1ABC", "3DA0RS"}
	for _, a := range l {
		for _, b := range l {
			x, _ := air.Base(a)
			y, _ := air.Base(b)
			ab, e := air.Same(a, b)
			ba, f := air.Same(b, a)
			if ab != (x == y) || ba != ab || e != api.OK || f != api.OK {
				t.Error(a, b, ab, ba, e, f)
			}
		}
	}
}
