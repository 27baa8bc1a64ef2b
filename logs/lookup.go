package logs

import (
	"slices"

	"pileup/api"
)

// Index returns the index of the line with a number.
func Index(l api.Log, num int) (int, api.Errno) {
	i := slices.IndexFunc(l.Lines, func(x api.Line) bool { return x.Num == num })
	if i < 0 {
		return 0, api.ErrNone
	}
	return i, api.OK
}

// indices returns the indices of the lines that are wanted.
func indices(l api.Log, wanted func(api.Line) bool) []int {
	var found []int
	for i, x := range l.Lines {
		if wanted(x) {
			found = append(found, i)
		}
	}
	return found
}

// Of returns the lines that name a call.
func Of(l api.Log, call string) []int {
	return indices(l, func(x api.Line) bool { return x.Call == call })
}

// Between returns the lines of some minutes.
func Between(l api.Log, s api.Span) []int {
	return indices(l, func(x api.Line) bool { return within(x.Minute, s.Lo, s.Hi) })
}

// Stations returns the calls that a log names.
func Stations(l api.Log) []string {
	var calls []string
	for _, x := range l.Lines {
		calls = append(calls, x.Call)
	}
	slices.Sort(calls)
	return slices.Compact(calls)
}

// numbers returns a number of each line.
func numbers(l api.Log, of func(api.Line) int) []int {
	var found []int
	for _, x := range l.Lines {
		found = append(found, of(x))
	}
	return found
}

// Times returns the minutes of all lines.
func Times(l api.Log) []int { return numbers(l, func(x api.Line) int { return x.Minute }) }

// Serials returns the serial numbers that were sent.
func Serials(l api.Log) []int { return numbers(l, func(x api.Line) int { return x.Sent.Serial }) }

// sameHeader reports whether two logs are equal in all fields but their lines.
func sameHeader(a, b api.Log) bool {
	return a.Call == b.Call && a.Category == b.Category && a.Power == b.Power && a.Claimed == b.Claimed && slices.Equal(a.Jumps, b.Jumps)
}

// Same reports whether two logs are equal.
func Same(a, b api.Log) bool { return sameHeader(a, b) && slices.Equal(a.Lines, b.Lines) }
