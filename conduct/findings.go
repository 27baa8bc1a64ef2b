package conduct

import (
	"slices"

	"pileup/api"
)

// signals returns the findings of two lines on two bands at one time.
func (q *inquiry) signals() []api.Finding {
	var l []api.Finding
	banded := q.banded(q.own)
	for i := range banded {
		if i == 0 {
			continue
		}
		if two := slices.Clone(banded[i-1 : i+1]); (signals{q}).proved(two) {
			l = append(l, api.Finding{Kind: api.BreachSignals, Log: q.index, Lines: two})
		}
	}
	return l
}

// finding returns the finding with the least proof of a kind of breach.
func (q *inquiry) finding(kind int) (api.Finding, api.Errno) {
	b, e := q.breach(kind)
	if e != api.OK {
		return api.Finding{}, e
	}
	lines, proved := b.least(q.own)
	if !proved {
		return api.Finding{}, api.ErrNone
	}
	return api.Finding{Kind: kind, Log: q.index, Lines: lines}, api.OK
}

// findings returns all findings of the log.
func (q *inquiry) findings() ([]api.Finding, api.Errno) {
	l := q.signals()
	for kind := api.BreachChanges; kind <= api.BreachPower; kind++ {
		f, e := q.finding(kind)
		switch e {
		case api.OK:
			l = append(l, f)
		case api.ErrNone:
		default:
			return nil, e
		}
	}
	return l, api.OK
}

// findingOf returns the finding with the least proof of a kind of breach for a log of a case.
func findingOf(c api.Case, k api.Conduct, log, kind int) (api.Finding, api.Errno) {
	q, e := openInquiry(c, k, log)
	if e != api.OK {
		return api.Finding{}, e
	}
	return q.finding(kind)
}

// Signals returns the lines on two bands at one time.
func Signals(c api.Case, k api.Conduct, log int) ([]api.Finding, api.Errno) {
	q, e := openInquiry(c, k, log)
	if e != api.OK {
		return nil, e
	}
	return q.signals(), api.OK
}

// Changes returns the lines that change bands too often.
func Changes(c api.Case, k api.Conduct, log int) (api.Finding, api.Errno) {
	return findingOf(c, k, log, api.BreachChanges)
}

// OnAir returns the minutes that some lines of a log prove on the air.
func OnAir(c api.Case, k api.Conduct, log int, lines []int) (int, api.Errno) {
	q, e := openInquiry(c, k, log)
	if e != api.OK {
		return 0, e
	}
	if !q.areOwn(lines) {
		return 0, api.ErrArg
	}
	return q.onAir(lines), api.OK
}

// Minutes returns the lines that are too long on the air.
func Minutes(c api.Case, k api.Conduct, log int) (api.Finding, api.Errno) {
	return findingOf(c, k, log, api.BreachMinutes)
}

// Share returns the lines that nobody else's log bears, if they are too many.
func Share(c api.Case, k api.Conduct, log int) (api.Finding, api.Errno) {
	return findingOf(c, k, log, api.BreachShare)
}

// Serial returns two lines whose serial numbers do not increase.
func Serial(c api.Case, log int) (api.Finding, api.Errno) {
	q, e := openLog(c, log)
	if e != api.OK {
		return api.Finding{}, e
	}
	return q.finding(api.BreachSerial)
}

// Power returns a finding if a log's power is too great.
func Power(c api.Case, k api.Conduct, log int) (api.Finding, api.Errno) {
	return findingOf(c, k, log, api.BreachPower)
}

// Find returns all findings of a log.
func Find(c api.Case, k api.Conduct, log int) ([]api.Finding, api.Errno) {
	q, e := openInquiry(c, k, log)
	if e != api.OK {
		return nil, e
	}
	return q.findings()
}

// All returns all findings of all logs.
func All(c api.Case, k api.Conduct) ([]api.Finding, api.Errno) {
	d, e := openRules(c, k)
	if e != api.OK {
		return nil, e
	}
	var l []api.Finding
	for log := range c.Logs {
		q, _ := d.inquire(log)
		found, e := q.findings()
		if e != api.OK {
			return nil, e
		}
		l = append(l, found...)
	}
	return l, api.OK
}

// check returns what Check does, and the kind of breach that a finding tells of.
func (q *inquiry) check(f api.Finding) (breach, api.Errno) {
	b, e := q.breach(f.Kind)
	switch {
	case e == api.ErrArg:
		return nil, api.ErrFinding
	case e != api.OK:
		return nil, e
	case !q.areOwn(f.Lines) || !b.proved(f.Lines):
		return nil, api.ErrFinding
	}
	return b, api.OK
}

// Check returns OK if a finding is proved by its lines alone.
func Check(c api.Case, k api.Conduct, f api.Finding) api.Errno {
	q, e := openInquiry(c, k, f.Log)
	if e != api.OK {
		return e
	}
	_, e = q.check(f)
	return e
}

// Needed reports whether a finding is proved by its lines, and by no fewer of them.
func Needed(c api.Case, k api.Conduct, f api.Finding) (bool, api.Errno) {
	q, e := openInquiry(c, k, f.Log)
	if e != api.OK {
		return false, e
	}
	b, e := q.check(f)
	if e != api.OK {
		return false, e
	}
	least, _ := b.least(f.Lines)
	return len(least) == len(f.Lines), api.OK
}

// Fewest returns how few lines prove a breach.
func Fewest(c api.Case, k api.Conduct, kind, log int) (int, api.Errno) {
	f, e := findingOf(c, k, log, kind)
	return len(f.Lines), e
}
