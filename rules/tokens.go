package rules

import (
	"iter"
	"strings"
)

// A token is a piece of a text, from its byte at on.
type token struct {
	at   int
	text string
}

// isDigit reports whether a byte is a digit.
func isDigit(c byte) bool { return within(int(c), '0', '9') }

// isLetter reports whether a byte is from a to z.
func isLetter(c byte) bool { return within(int(c), 'a', 'z') }

// run returns with how many bytes of a class a text begins.
func run(s string, of func(c byte) bool) int {
	n := 0
	for n < len(s) && of(s[n]) {
		n++
	}
	return n
}

// width returns the number of bytes of the token that a text begins with. A byte that no token begins with is one by itself, which nothing allows.
func width(s string) int {
	switch {
	case isDigit(s[0]):
		return run(s, isDigit)
	case isLetter(s[0]):
		return run(s, isLetter)
	case strings.HasPrefix(s, arrow):
		return len(arrow)
	default:
		return 1
	}
}

// tokensOf yields the tokens of a text, with its end as the last one.
func tokensOf(s string) iter.Seq[token] {
	return func(yield func(token) bool) {
		for at := 0; at < len(s); {
			if s[at] == ' ' || s[at] == '\t' {
				at++
				continue
			}
			next := at + width(s[at:])
			if !yield(token{at, s[at:next]}) {
				return
			}
			at = next
		}
		yield(token{len(s), end})
	}
}
