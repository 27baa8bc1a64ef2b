package copying

import (
	"strconv"
	"strings"

	"pileup/api"
)

// digits are the digits from 0 to 9.
const digits = "0123456789"

// maxDigits is how many characters a number has at most.
const maxDigits = 5

// Digits returns a number as it is sent.
func Digits(mode, n int) (string, api.Errno) {
	m, e := mediumOf(mode)
	if e != api.OK {
		return "", e
	}
	if !within(n, 0, api.MaxSerial) {
		return "", api.ErrArg
	}
	figures := m.figures()
	return strings.Map(func(r rune) rune { return rune(figures[r-'0']) }, strconv.Itoa(n)), api.OK
}

// Number returns the number that a text stands for.
func Number(mode int, s string) (int, api.Errno) {
	m, e := mediumOf(mode)
	if e != api.OK {
		return 0, e
	}
	if !within(len(s), 1, maxDigits) {
		return 0, api.ErrArg
	}
	n := 0
	for i := range len(s) {
		// A digit may be sent as it is in every mode.
		digit := max(strings.IndexByte(digits, s[i]), strings.IndexByte(m.figures(), s[i]))
		if digit < 0 {
			return 0, api.ErrArg
		}
		n = 10*n + digit
	}
	return n, api.OK
}

// CopyNumber returns what it costs to hear a number for another one.
func CopyNumber(mode, sent, heard int) (int, api.Errno) {
	s, e := Digits(mode, sent)
	if e != api.OK {
		return 0, e
	}
	h, e := Digits(mode, heard)
	if e != api.OK {
		return 0, e
	}
	return Cost(mode, s, h)
}

// A part is a number of an exchange: whether the layout has it, as it was sent and got, and the most that it can be.
type part struct {
	has       bool
	sent, got int
	most      int
}

// partsOf returns the parts of two exchanges.
func partsOf(o api.Layout, sent, got api.Exchange) [3]part {
	return [3]part{
		{o.Report, sent.Report, got.Report, api.MaxReport},
		{o.Serial, sent.Serial, got.Serial, api.MaxSerial},
		{o.Zone, sent.Zone, got.Zone, api.MaxZone},
	}
}

// valid reports whether both numbers of a part are valid.
func (p part) valid() bool {
	if !p.has {
		return p.sent == 0 && p.got == 0
	}
	return within(p.sent, 1, p.most) && within(p.got, 1, p.most)
}

// CopyExchange returns what it costs to hear an exchange for another one.
func CopyExchange(o api.Layout, mode int, sent, got api.Exchange) (int, api.Errno) {
	if _, e := mediumOf(mode); e != api.OK {
		return 0, e
	}
	sum := 0
	for _, p := range partsOf(o, sent, got) {
		if !p.valid() {
			return 0, api.ErrArg
		}
		// A part that the layout does not have is 0 in both, which costs nothing.
		cost, e := CopyNumber(mode, p.sent, p.got)
		if e != api.OK {
			return 0, e
		}
		sum += cost
	}
	return sum, api.OK
}

// CopyLine returns what a line costs as a copy of a call and an exchange.
func CopyLine(o api.Layout, call string, sent api.Exchange, x api.Line) (int, api.Errno) {
	calls, e := Cost(x.Mode, call, x.Call)
	if e != api.OK {
		return 0, e
	}
	exchanges, e := CopyExchange(o, x.Mode, sent, x.Got)
	if e != api.OK {
		return 0, e
	}
	return calls + exchanges, api.OK
}
