package air

import (
	"strconv"
	"strings"

	"pileup/api"
)

const (
	hourMinutes = 60
	dayMinutes  = 24 * hourMinutes
)

// A part is a number of an exchange: whether a layout has it, the most that it can be, and how many digits it has at least.
type part struct {
	has          bool
	most, digits int
}

// partsOf returns the report, the serial and the zone of a layout.
func partsOf(o api.Layout) [3]part {
	return [3]part{{o.Report, api.MaxReport, 1}, {o.Serial, api.MaxSerial, 3}, {o.Zone, api.MaxZone, 2}}
}

// numbersOf returns the numbers of an exchange in the order of partsOf.
func numbersOf(x api.Exchange) [3]int { return [3]int{x.Report, x.Serial, x.Zone} }

// pad returns a number in decimal, with zeros ahead of it if it has fewer digits than it should.
func pad(n, digits int) string {
	s := strconv.Itoa(n)
	return strings.Repeat("0", max(digits-len(s), 0)) + s
}

// readNumber returns the number of a text of digits, and whether it is one that is not above most.
func readNumber(s string, most int) (int, bool) {
	n := 0
	for _, r := range s {
		if !isDigit(r) {
			return 0, false
		}
		n = n*10 + int(r-'0')
		if n > most {
			return 0, false
		}
	}
	return n, s != ""
}

// ValidExchange reports whether an exchange is valid for a layout.
func ValidExchange(o api.Layout, x api.Exchange) bool {
	numbers := numbersOf(x)
	for i, p := range partsOf(o) {
		if p.has && !within(numbers[i], 1, p.most) || !p.has && numbers[i] != 0 {
			return false
		}
	}
	return true
}

// PrintExchange returns an exchange as a text.
func PrintExchange(o api.Layout, x api.Exchange) (string, api.Errno) {
	if !ValidExchange(o, x) {
		return "", api.ErrArg
	}
	var b strings.Builder
	numbers := numbersOf(x)
	for i, p := range partsOf(o) {
		if !p.has {
			continue
		}
		if b.Len() > 0 {
			b.WriteString(" ")
		}
		b.WriteString(pad(numbers[i], p.digits))
	}
	if b.Len() == 0 {
		return "-", api.OK
	}
	return b.String(), api.OK
}

// ParseExchange returns the exchange of a text.
func ParseExchange(o api.Layout, s string) (api.Exchange, api.Errno) {
	var numbers [3]int
	rest := s
	for i, p := range partsOf(o) {
		if !p.has {
			continue
		}
		var word string
		word, rest, _ = strings.Cut(rest, " ")
		n, ok := readNumber(word, p.most)
		if !ok {
			return api.Exchange{}, api.ErrArg
		}
		numbers[i] = n
	}
	x := api.Exchange{Report: numbers[0], Serial: numbers[1], Zone: numbers[2]}
	// Only the text as it is printed counts: no zeros or blanks more or less.
	if text, e := PrintExchange(o, x); e != api.OK || text != s {
		return api.Exchange{}, api.ErrArg
	}
	return x, api.OK
}

// PrintTime returns a minute as its day, hour and minute.
func PrintTime(minute int) (string, api.Errno) {
	if !within(minute, 0, api.MaxMinute) {
		return "", api.ErrArg
	}
	day, rest := minute/dayMinutes+1, minute%dayMinutes
	var b strings.Builder
	b.WriteString(pad(day, 1) + " ")
	b.WriteString(pad(rest/hourMinutes, 2))
	b.WriteString(pad(rest%hourMinutes, 2))
	return b.String(), api.OK
}

// ParseTime returns the minute of a text.
func ParseTime(s string) (int, api.Errno) {
	left, right, _ := strings.Cut(s, " ")
	day, ok := readNumber(left, api.MaxMinute/dayMinutes+1)
	clock, fits := readNumber(right, 2359)
	if !ok || !fits {
		return 0, api.ErrTime
	}
	minute := (day-1)*dayMinutes + clock/100*hourMinutes + clock%100
	// A clock such as 0060, or a number with other zeros, leads to another text.
	if text, e := PrintTime(minute); e != api.OK || text != s {
		return 0, api.ErrTime
	}
	return minute, api.OK
}

// DayOf returns the day of a minute of a contest that begins on a day.
func DayOf(day, minute int) (int, api.Errno) {
	if !validDay(day) || !within(minute, 0, api.MaxMinute) {
		return 0, api.ErrArg
	}
	day += minute / dayMinutes
	if day > api.MaxDay {
		return 0, api.ErrLimit
	}
	return day, api.OK
}
