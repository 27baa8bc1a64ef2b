package copying_test

import (
	"math"
	"math/rand/v2"
	"slices"
	"strings"
	"testing"

	"pileup/api"
	"pileup/copying"
)

const (
	most  = math.MaxInt
	least = math.MinInt
)

// alphabet is all characters.
const alphabet = "ABCDEFGHIJKLMNOPQRSTUVWXYZ0123456789/"

// modes are all modes.
var modes = []int{api.Morse, api.Voice, api.Data}

// badModes are numbers that are no modes.
func badModes() []int { return []int{0, 4, -1, most, least} }

// badBytes are texts of one byte or character that is none.
func badBytes() []string {
	return []string{"a", "z", " ", "-", ".", ":", "@", "[", "`", "{", "?", "\x00", "\n", "\x80", "\xc1", "\xff"}
}

// longest is a text of as many characters as a text may have, and tooLong one of one more.
func longest() string { return strings.Repeat("K1AB", api.MaxCopy/4) }
func tooLong() string { return longest() + "C" }

// sameRows reports whether two tables are equal.
func sameRows(a, b [][]int) bool { return slices.EqualFunc(a, b, slices.Equal[[]int]) }

// anyText returns a random text of at most n of some characters.
func anyText(r *rand.Rand, chars string, n int) string {
	var b strings.Builder
	for range r.IntN(n + 1) {
		b.WriteByte(chars[r.IntN(len(chars))])
	}
	return b.String()
}

// near returns a text that was got from another one by some changes.
func near(r *rand.Rand, s string, changes int) string {
	for range changes {
		at := r.IntN(len(s) + 1)
		end := min(at+r.IntN(2), len(s))
		s = s[:at] + anyText(r, alphabet, 1) + s[end:]
	}
	return s[:min(len(s), api.MaxCopy)]
}

// textsOf returns all texts of at most n of some characters.
func textsOf(chars string, n int) []string {
	all := []string{""}
	for i := 0; i < len(all); i++ {
		if len(all[i]) < n {
			for _, c := range chars {
				all = append(all, all[i]+string(c))
			}
		}
	}
	return all
}

// A textCall is a function of a mode and two texts; it returns whether there is another result than zero.
type textCall func(mode int, s, h string) (bool, api.Errno)

// textCalls returns the functions that read a mode and two texts, by their names. What else some of them are given is wrong.
func textCalls() map[string]textCall {
	o := api.Layout{Report: true}
	return map[string]textCall{
		"Cost":  func(mode int, s, h string) (bool, api.Errno) { n, e := copying.Cost(mode, s, h); return n != 0, e },
		"Align": func(mode int, s, h string) (bool, api.Errno) { l, e := copying.Align(mode, s, h); return len(l) > 0, e },
		"Table": func(mode int, s, h string) (bool, api.Errno) { t, e := copying.Table(mode, s, h); return len(t) > 0, e },
		"CheckAlign": func(mode int, s, h string) (bool, api.Errno) {
			n, e := copying.CheckAlign(mode, s, h, []api.Step{{}})
			return n != 0, e
		},
		"CheckTable": func(mode int, s, h string) (bool, api.Errno) {
			n, e := copying.CheckTable(mode, s, h, nil)
			return n != 0, e
		},
		"Nearest, sent": func(mode int, s, h string) (bool, api.Errno) {
			l, e := copying.Nearest(mode, h, []string{"A", s, "B"}, most)
			return len(l) > 0, e
		},
		"CopyLine": func(mode int, s, h string) (bool, api.Errno) {
			n, e := copying.CopyLine(o, s, api.Exchange{Zone: 1}, api.Line{Mode: mode, Call: h})
			return n != 0, e
		},
	}
}

// The errors that all functions with texts have in common, each alone and each ahead of those behind it.
func TestTextErrors(t *testing.T) {
	for name, call := range textCalls() {
		is := func(mode int, s, h string, want api.Errno) {
			t.Helper()
			for _, x := range [][2]string{{s, h}, {h, s}} {
				if some, e := call(mode, x[0], x[1]); some || e != want {
					t.Errorf("%s %d %q %q: %v, want %v", name, mode, x[0], x[1], e, want)
				}
			}
		}
		for _, mode := range badModes() {
			is(mode, "K1AA", "K1AB", api.ErrMode)
			is(mode, "", "", api.ErrMode)
			is(mode, tooLong(), "K1AB", api.ErrMode)
			is(mode, "k", "K1AB", api.ErrMode)
			is(mode, tooLong(), "k", api.ErrMode)
		}
		for _, mode := range modes {
			is(mode, tooLong(), "K1AB", api.ErrLimit)
			is(mode, tooLong(), tooLong(), api.ErrLimit)
			is(mode, tooLong(), "k", api.ErrLimit)
			is(mode, strings.Repeat("k", api.MaxCopy+1), "K", api.ErrLimit)
			is(mode, strings.Repeat("Ä", api.MaxCopy/2)+"A", "K", api.ErrLimit)
			is(mode, strings.Repeat("K", 100000), "", api.ErrLimit)
			for _, c := range badBytes() {
				is(mode, c, "K1AB", api.ErrKey)
				is(mode, "K1A"+c, "K1AB", api.ErrKey)
				is(mode, c+"K1A", "", api.ErrKey)
				is(mode, c, c, api.ErrKey)
				is(mode, longest()[1:]+c, longest(), api.ErrKey)
			}
			is(mode, "Ä", "A", api.ErrKey)
			is(mode, "Ⅰ", "A", api.ErrKey)
			is(mode, strings.Repeat("k", api.MaxCopy), "K", api.ErrKey)
			is(mode, strings.Repeat("Ä", api.MaxCopy/2), "K", api.ErrKey)
		}
	}
}

// Texts of any length up to the limit are read, and the errors of the rules come behind those of the texts.
func TestTextErrorsOfRules(t *testing.T) {
	want := map[string]api.Errno{"CheckAlign": api.ErrAlign, "CheckTable": api.ErrAlign, "CopyLine": api.ErrArg}
	for name, call := range textCalls() {
		for _, mode := range modes {
			for _, x := range [][2]string{{"", ""}, {longest(), "K1AB"}, {"", longest()}, {longest(), longest()}, {alphabet, "K/1"}, {"K1", "K2"}} {
				if some, e := call(mode, x[0], x[1]); e != want[name] || e != api.OK && some {
					t.Error(name, mode, x, e, "want", want[name])
				}
			}
		}
	}
}
