package copying

import "pileup/api"

// Costs tell what it costs that items of a list are heard for others, missed, or heard though they were not sent.
type costs[T any] interface {
	swap(x, y T) int // of items that are not equal
	miss() int
	extra() int
}

// A medium is a mode: the costs of characters, and the characters that are sent for the digits from 0 to 9.
type medium interface {
	costs[key]
	figures() string
}

type (
	morse struct{}
	voice struct{}
	data  struct{}

	// signs are the dots and dashes of a code.
	signs struct{}
)

// swap returns what it costs to turn one code into the other one.
func (morse) swap(x, y key) int {
	// An array, since this is asked for each two characters of two texts.
	var cells [(maxCode + 1) * (maxCode + 1)]int
	return fill(cells[:], []byte(codes[x]), []byte(codes[y]), costs[byte](signs{}))
}

func (morse) miss() int       { return 3 }
func (morse) extra() int      { return 3 }
func (morse) figures() string { return "TA2345678N" }

// swap tells apart whether characters sound alike.
func (voice) swap(x, y key) int {
	if familyOf(x) == familyOf(y) {
		return 1
	}
	return 3
}

func (voice) miss() int       { return 2 }
func (voice) extra() int      { return 3 }
func (voice) figures() string { return digits }

func (data) swap(x, y key) int { return 2 }
func (data) miss() int         { return 2 }
func (data) extra() int        { return 2 }
func (data) figures() string   { return digits }

func (signs) swap(x, y byte) int { return 1 }
func (signs) miss() int          { return 1 }
func (signs) extra() int         { return 1 }

// mediumOf returns the medium of a mode.
func mediumOf(mode int) (medium, api.Errno) {
	switch mode {
	case api.Morse:
		return morse{}, api.OK
	case api.Voice:
		return voice{}, api.OK
	case api.Data:
		return data{}, api.OK
	}
	return nil, api.ErrMode
}

// swapCost returns what it costs that y is heard for x.
func swapCost[T comparable](by costs[T], x, y T) int {
	if x == y {
		return 0
	}
	return by.swap(x, y)
}

// Swap returns what it costs to hear one character for another one.
func Swap(mode int, x, y string) (int, api.Errno) {
	m, e := mediumOf(mode)
	if e != api.OK {
		return 0, e
	}
	sent, e := readKey(x)
	heard, f := readKey(y)
	if e != api.OK || f != api.OK {
		return 0, api.ErrKey
	}
	return swapCost(costs[key](m), sent, heard), api.OK
}

// Miss returns what it costs not to hear a character.
func Miss(mode int) (int, api.Errno) {
	m, e := mediumOf(mode)
	if e != api.OK {
		return 0, e
	}
	return m.miss(), api.OK
}

// Extra returns what it costs to hear a character that was not sent.
func Extra(mode int) (int, api.Errno) {
	m, e := mediumOf(mode)
	if e != api.OK {
		return 0, e
	}
	return m.extra(), api.OK
}
