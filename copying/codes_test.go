package copying_test

import (
	"strings"
	"testing"

	"pileup/api"
	"pileup/copying"
)

// codeList is the codes as the document lists them, and familyList the families.
const (
	codeList   = "A .-, B -..., C -.-., D -.., E ., F ..-., G --., H ...., I .., J .---, K -.-, L .-.., M --, N -., O ---, P .--., Q --.-, R .-., S ..., T -, U ..-, V ...-, W .--, X -..-, Y -.--, Z --.., 0 -----, 1 .----, 2 ..---, 3 ...--, 4 ....-, 5 ....., 6 -...., 7 --..., 8 ---.., 9 ----., / -..-."
	familyList = "1: B C D E G P T V Z 3; 2: A H J K 8; 3: F L M N S X 7; 4: I Y 5 9; 5: Q U W 2; 6: O 0 1 4; 7: R 6 /"
)

// codesOf returns the codes by their characters.
func codesOf() map[string]string {
	codes := map[string]string{}
	for _, s := range strings.Split(codeList, ", ") {
		c, code, _ := strings.Cut(s, " ")
		codes[c] = code
	}
	return codes
}

// familiesOf returns the families by their characters.
func familiesOf() map[string]int {
	families := map[string]int{}
	for i, s := range strings.Split(familyList, "; ") {
		for _, c := range strings.Split(s, " ")[1:] {
			families[c] = i + 1
		}
	}
	return families
}

// swapOf returns the cost of a swap as the words of the document say.
func swapOf(mode int, x, y string) int {
	switch {
	case x == y:
		return 0
	case mode == api.Data:
		return 2
	case mode == api.Voice && familiesOf()[x] == familiesOf()[y]:
		return 1
	case mode == api.Voice:
		return 3
	}
	return editsOf(codesOf()[x], codesOf()[y])
}

// editsOf returns in how many edits a code becomes another one, by trying all edits.
func editsOf(from, to string) int {
	seen := map[string]bool{from: true}
	for n, wave := 0, []string{from}; ; n++ {
		var next []string
		for _, s := range wave {
			if s == to {
				return n
			}
			for _, edited := range editedOf(s) {
				if !seen[edited] {
					seen[edited] = true
					next = append(next, edited)
				}
			}
		}
		wave = next
	}
}

// editedOf returns what a code becomes in one edit, as far as it does not become longer than codes are.
func editedOf(s string) []string {
	var l []string
	for i := range len(s) + 1 {
		for _, sign := range []string{".", "-"} {
			if len(s) < 5 {
				l = append(l, s[:i]+sign+s[i:])
			}
			if i < len(s) {
				l = append(l, s[:i]+sign+s[i+1:])
			}
		}
		if i < len(s) {
			l = append(l, s[:i]+s[i+1:])
		}
	}
	return l
}

// C1 to C3, P4.2: all characters.
func TestCodes(t *testing.T) {
	if len(codesOf()) != 37 || len(familiesOf()) != 37 {
		t.Fatal("the document's lists")
	}
	seen := map[string]bool{}
	for _, r := range alphabet {
		c := string(r)
		code, e := copying.Code(c)
		back, f := copying.Char(code)
		if code != codesOf()[c] || back != c || e != api.OK || f != api.OK || seen[code] {
			t.Error(c, code, back, e, f)
		}
		seen[code] = true
		if n, e := copying.Family(c); n != familiesOf()[c] || n == 0 || e != api.OK {
			t.Error(c, n, e)
		}
	}
}

// C2, P4.2: all texts of dots and dashes, and others that are no codes.
func TestChar(t *testing.T) {
	found := 0
	for _, code := range textsOf(".-", 7) {
		c, e := copying.Char(code)
		if e == api.ErrNone && c == "" {
			continue
		}
		found++
		if back, f := copying.Code(c); back != code || e != api.OK || f != api.OK {
			t.Error(code, c, e, back, f)
		}
	}
	if found != 37 {
		t.Error("codes:", found)
	}
	for _, code := range []string{"", "A", "0", "a", " ", ". ", " .", ".-\n", "._", "·", "...---...", "-----.", "\xff", ".\xff", strings.Repeat(".", api.MaxCopy+1), strings.Repeat("x", 1000)} {
		if c, e := copying.Char(code); c != "" || e != api.ErrNone {
			t.Errorf("%q %q %v", code, c, e)
		}
	}
}

// badChars are texts that are not one character.
func badChars() []string {
	return append(badBytes(), "", "AB", "AA", "A ", " A", "Ä", "Ⅰ", "é", "\xc3", longest(), tooLong(), strings.Repeat("A", 1000))
}

// C1, C3, C4: texts that are not one character; the errors of Swap in their order.
func TestBadChars(t *testing.T) {
	for _, c := range badChars() {
		if code, e := copying.Code(c); code != "" || e != api.ErrKey {
			t.Errorf("Code %q %q %v", c, code, e)
		}
		if n, e := copying.Family(c); n != 0 || e != api.ErrKey {
			t.Errorf("Family %q %d %v", c, n, e)
		}
		for _, x := range [][2]string{{c, "A"}, {"A", c}, {c, c}} {
			for _, mode := range modes {
				if n, e := copying.Swap(mode, x[0], x[1]); n != 0 || e != api.ErrKey {
					t.Errorf("Swap %q %d %v", x, n, e)
				}
			}
			for _, mode := range badModes() {
				if n, e := copying.Swap(mode, x[0], x[1]); n != 0 || e != api.ErrMode {
					t.Errorf("Swap %d %q %d %v", mode, x, n, e)
				}
			}
		}
	}
}

// C4: the examples, and all swaps.
func TestSwap(t *testing.T) {
	for _, x := range []struct {
		mode int
		x, y string
		want int
	}{
		{api.Morse, "H", "5", 1}, {api.Morse, "E", "0", 5}, {api.Voice, "B", "P", 1}, {api.Voice, "B", "M", 3}, {api.Data, "B", "P", 2},
		{api.Morse, "T", "N", 1}, {api.Morse, "A", "N", 2}, {api.Morse, "C", "S", 2}, {api.Morse, "0", "5", 5}, {api.Morse, "E", "T", 1}, {api.Morse, "/", "X", 1},
		{api.Morse, "A", "A", 0}, {api.Voice, "A", "A", 0}, {api.Data, "/", "/", 0}, {api.Voice, "R", "/", 1}, {api.Voice, "O", "Q", 3},
	} {
		if n, e := copying.Swap(x.mode, x.x, x.y); n != x.want || e != api.OK {
			t.Error(x, n, e)
		}
	}
	for _, mode := range modes {
		for _, x := range alphabet {
			for _, y := range alphabet {
				want := swapOf(mode, string(x), string(y))
				if n, e := copying.Swap(mode, string(x), string(y)); n != want || e != api.OK {
					t.Error(mode, string(x), string(y), n, e, "want", want)
				}
			}
		}
	}
}

// C5, C6.
func TestMissAndExtra(t *testing.T) {
	for mode, want := range map[int][2]int{api.Morse: {3, 3}, api.Voice: {2, 3}, api.Data: {2, 2}} {
		miss, e := copying.Miss(mode)
		extra, f := copying.Extra(mode)
		if miss != want[0] || extra != want[1] || e != api.OK || f != api.OK {
			t.Error(mode, miss, extra, e, f)
		}
	}
	for _, mode := range badModes() {
		miss, e := copying.Miss(mode)
		extra, f := copying.Extra(mode)
		if miss != 0 || extra != 0 || e != api.ErrMode || f != api.ErrMode {
			t.Error(mode, miss, extra, e, f)
		}
	}
}
