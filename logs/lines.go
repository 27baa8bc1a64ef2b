package logs

import (
	"strconv"
	"strings"

	"pileup/air"
	"pileup/api"
)

// modeLetters are the letters of Morse, Voice and Data, in this order.
const modeLetters = "MVD"

// lineWords is how many words the text of a line has ahead of ">", the two of its time among them.
const lineWords = 7

// PrintLine returns a line as a text.
func PrintLine(o api.Layout, x api.Line) (string, api.Errno) {
	if !ValidLine(o, x) {
		return "", api.ErrArg
	}
	// A valid line has a time and exchanges that can be printed.
	time, _ := air.PrintTime(x.Minute)
	sent, _ := air.PrintExchange(o, x.Sent)
	got, _ := air.PrintExchange(o, x.Got)
	words := []string{
		"QSO", strconv.Itoa(x.Num), strconv.Itoa(x.Khz), modeLetters[x.Mode-1 : x.Mode],
		time, x.Call, ">", sent, "<", got,
	}
	return strings.Join(words, " "), api.OK
}

// ParseLine returns the line of a text.
func ParseLine(o api.Layout, s string) (api.Line, api.Errno) {
	x, ok := readLine(o, s)
	if !ok {
		return api.Line{}, api.ErrText
	}
	// Only the text as it is printed counts: what reads as a line in another way is none.
	if text, e := PrintLine(o, x); e != api.OK || text != s {
		return api.Line{}, api.ErrText
	}
	return x, api.OK
}

// readLine returns the line whose words are those of a text; it may be one that is printed otherwise.
func readLine(o api.Layout, s string) (api.Line, bool) {
	head, tail, _ := strings.Cut(s, " > ")
	sentText, gotText, _ := strings.Cut(tail, " < ")
	words := strings.Split(head, " ")
	if len(words) != lineWords {
		return api.Line{}, false
	}
	num, isNum := readNumber(words[1], 1, api.MaxID)
	khz, isKhz := readNumber(words[2], 1, api.MaxKhz)
	minute, e := air.ParseTime(words[4] + " " + words[5])
	sent, f := air.ParseExchange(o, sentText)
	got, g := air.ParseExchange(o, gotText)
	if !isNum || !isKhz || e != api.OK || f != api.OK || g != api.OK {
		return api.Line{}, false
	}
	mode := strings.Index(modeLetters, words[3]) + 1
	return api.Line{Num: num, Khz: khz, Mode: mode, Minute: minute, Call: words[6], Sent: sent, Got: got}, true
}

// readNumber returns the number from lo to hi whose text, without leading zeros, is s.
func readNumber(s string, lo, hi int) (int, bool) {
	n, err := strconv.Atoi(s)
	return n, err == nil && strconv.Itoa(n) == s && within(n, lo, hi)
}
