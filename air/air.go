// Package air describes what is in the air: bands, call signs and their parts, tables of prefixes, exchanges, and times.
package air

import "pileup/api"

// within reports whether a number is from lo to hi.
func within(n, lo, hi int) bool { return lo <= n && n <= hi }

// validDay reports whether a number is a day.
func validDay(day int) bool { return within(day, 0, api.MaxDay) }

// isLetter reports whether a character is one of A to Z.
func isLetter(r rune) bool { return 'A' <= r && r <= 'Z' }

// isDigit reports whether a character is one of 0 to 9.
func isDigit(r rune) bool { return '0' <= r && r <= '9' }

// count returns how many characters of a text are of a kind.
func count(s string, kind func(rune) bool) int {
	n := 0
	for _, r := range s {
		if kind(r) {
			n++
		}
	}
	return n
}
