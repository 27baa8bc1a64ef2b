package conduct

import (
	"iter"

	"pileup/api"
)

// A breach is a kind of breach of a log.
type breach interface {
	// proved reports whether some own lines prove the breach.
	proved(lines []int) bool
	// least returns the first one of the shortest lists of some of these lines that prove the breach, and whether there is one.
	least(lines []int) ([]int, bool)
}

// The kinds of breaches of the log of an inquiry.
type (
	signals struct{ *inquiry }
	changes struct{ *inquiry }
	minutes struct{ *inquiry }
	share   struct{ *inquiry }
	serial  struct{ *inquiry }
	power   struct{ *inquiry }
)

// breach returns a kind of breach of the log: ErrLimit, if it needs statuses that cannot be had, and ErrArg, if there is no such kind.
func (q *inquiry) breach(kind int) (breach, api.Errno) {
	switch kind {
	case api.BreachSignals:
		return signals{q}, api.OK
	case api.BreachChanges:
		return changes{q}, api.OK
	case api.BreachMinutes:
		return minutes{q}, api.OK
	case api.BreachShare:
		if e := q.readLines(); e != api.OK {
			return nil, e
		}
		return share{q}, api.OK
	case api.BreachSerial:
		return serial{q}, api.OK
	case api.BreachPower:
		return power{q}, api.OK
	}
	return nil, api.ErrArg
}

// firstTwo returns the first two of some lines that prove a breach which two lines prove.
func firstTwo(b breach, lines []int) ([]int, bool) {
	for i, first := range lines {
		for _, second := range lines[i+1:] {
			if two := []int{first, second}; b.proved(two) {
				return two, true
			}
		}
	}
	return nil, false
}

func (b signals) proved(lines []int) bool {
	if len(b.banded(lines)) != 2 || len(lines) != 2 {
		return false
	}
	return b.band(lines[0]) != b.band(lines[1]) && b.delay(lines[0], lines[1]).Hi < b.rules.Gap
}

func (b signals) least(lines []int) ([]int, bool) { return firstTwo(b, lines) }

// run returns a run of at most n lines, which all have bands: the first one, and each next one that is on another band than the one taken before.
func (q *inquiry) run(lines []int, n int) []int {
	var run []int
	last := none
	for _, line := range lines {
		band := q.band(line)
		if band == last {
			continue
		}
		run = append(run, line)
		last = band
		if len(run) == n {
			break
		}
	}
	return run
}

// runs yields for each of some lines that has a band the run of n lines that it begins, if it is as long.
func (q *inquiry) runs(lines []int, n int) iter.Seq[[]int] {
	return func(yield func([]int) bool) {
		banded := q.banded(lines)
		for i := range banded {
			run := q.run(banded[i:], n)
			if len(run) == n && !yield(run) {
				return
			}
		}
	}
}

// needed returns how many lines prove too many changes at least.
func (b changes) needed() int { return b.rules.Changes + 2 }

// inHour reports whether the last one of some lines is less than an hour behind the first one.
func (b changes) inHour(lines []int) bool {
	return b.delay(lines[0], lines[len(lines)-1]).Hi < b.rules.Hour
}

func (b changes) proved(lines []int) bool {
	run := b.run(b.banded(lines), len(lines))
	return len(run) == len(lines) && len(lines) >= b.needed() && b.inHour(lines)
}

// Of all lists with as many changes that begin with a line, its run has the least lines at each place, and so the least delay of the last one.
func (b changes) least(lines []int) ([]int, bool) {
	for run := range b.runs(lines, b.needed()) {
		if b.inHour(run) {
			return run, true
		}
	}
	return nil, false
}

// refused returns those of some lines whose status is Refused.
func (b share) refused(lines []int) []int {
	var l []int
	for _, line := range lines {
		if b.statuses[b.index][line] == api.Refused {
			l = append(l, line)
		}
	}
	return l
}

func (b share) proved(lines []int) bool {
	return len(b.refused(lines)) == len(lines) && 100*len(lines) > b.rules.Share*len(b.own)
}

func (b share) least(lines []int) ([]int, bool) {
	refused := b.refused(lines)
	needed := b.rules.Share*len(b.own)/100 + 1
	if len(refused) < needed {
		return nil, false
	}
	return refused[:needed], true
}

func (b serial) proved(lines []int) bool {
	if !b.Contest.Layout.Serial || len(lines) != 2 {
		return false
	}
	return b.Lines[lines[1]].Sent.Serial <= b.Lines[lines[0]].Sent.Serial
}

func (b serial) least(lines []int) ([]int, bool) { return firstTwo(b, lines) }

func (b power) proved(lines []int) bool {
	return len(lines) == 0 && b.Power > b.rules.Power[b.Category-1]
}

func (b power) least([]int) ([]int, bool) { return nil, b.proved(nil) }
