package readings

import (
	"slices"

	"pileup/api"
	"pileup/clocks"
	"pileup/copying"
)

// maxKnown is how many costs of one kind are kept in mind.
const maxKnown = 1 << 16

// A heardCall is a call that was heard for another one in a mode, and a heardExchange such an exchange.
type (
	heardCall struct {
		mode        int
		sent, heard string
	}
	heardExchange struct {
		mode      int
		sent, got api.Exchange
	}
)

// A search looks for candidates of the lines of one log: with the spans of all lines, and with costs of copies that are the same for many lines.
type search struct {
	*desk
	spans     [][]api.Span
	calls     map[heardCall]int
	exchanges map[heardExchange]int
}

// known returns the cost that is kept for a key, or finds it and keeps it.
func known[K comparable](costs map[K]int, key K, find func(K) (int, api.Errno)) int {
	cost, has := costs[key]
	if !has {
		// What stands in valid logs can be copied.
		cost, _ = find(key)
		if len(costs) < maxKnown {
			costs[key] = cost
		}
	}
	return cost
}

// callCost returns what it costs to hear the call by which a line names its station for that of another line's log.
func (s *search) callCost(x, by *spot) int {
	return known(s.calls, heardCall{by.Mode, x.station, by.Call}, func(h heardCall) (int, api.Errno) {
		return copying.Cost(h.mode, h.sent, h.heard)
	})
}

// exchangeCost returns what it costs to hear the exchange that a line got for that which another line sent.
func (s *search) exchangeCost(x, by *spot) int {
	return known(s.exchanges, heardExchange{by.Mode, x.Sent, by.Got}, func(h heardExchange) (int, api.Errno) {
		return copying.CopyExchange(s.Contest.Layout, h.mode, h.sent, h.got)
	})
}

// meetInTime reports whether the spans of two lines come within the window of one another.
func (s *search) meetInTime(a, b *spot) bool {
	x, y := s.spans[a.ref.Log][a.ref.Line], s.spans[b.ref.Log][b.ref.Line]
	return x.Lo <= y.Hi+s.Contest.Window && y.Lo <= x.Hi+s.Contest.Window
}

// mayMeet reports whether two lines may be a candidate as far as all but their copies say.
func (s *search) mayMeet(a, b *spot) bool {
	return !a.struck && !b.struck && together(a, b) && s.meetInTime(a, b)
}

// candidate returns the candidate of two lines, a of an earlier log, and whether they are one.
func (s *search) candidate(a, b *spot) (api.Candidate, bool) {
	most := s.Contest.Near
	if a.forced && b.forced && s.force[api.Duo{A: a.ref, B: b.ref}] {
		most = api.NoBound
	} else if !s.mayMeet(a, b) {
		return api.Candidate{}, false
	}
	// A copy costs what its call and its exchange cost together. The calls come first, as they rule out most lines.
	x := api.Candidate{A: a.ref, B: b.ref, Left: s.callCost(b, a), Right: s.callCost(a, b)}
	if max(x.Left, x.Right) > most {
		return x, false
	}
	x.Left += s.exchangeCost(b, a)
	if x.Left > most {
		return x, false
	}
	x.Right += s.exchangeCost(a, b)
	return x, x.Right <= most
}

// candidatesOf returns the candidates of the lines of a log with those of later ones, but no more than are too many.
func (d *desk) candidatesOf(log int, spans [][]api.Span) []api.Candidate {
	s := &search{d, spans, map[heardCall]int{}, map[heardExchange]int{}}
	var l []api.Candidate
	for _, a := range d.linesOf(log) {
		for _, b := range d.spots[d.starts[log+1]:] {
			x, is := s.candidate(a, b)
			if !is {
				continue
			}
			l = append(l, x)
			if len(l) > api.MaxPairs {
				return l
			}
		}
	}
	return l
}

// candidates returns the candidates of the case, unless they are too many.
func (d *desk) candidates() ([]api.Candidate, api.Errno) {
	// The system of a case closes, as it has only ties that are accepted.
	spans, _ := clocks.Times(d.system())
	var indices []int
	for log := range d.Logs {
		indices = append(indices, log)
	}
	lists := inAll(indices, func(log int) []api.Candidate { return d.candidatesOf(log, spans) })
	l := slices.Concat(lists...)
	if len(l) > api.MaxPairs {
		return nil, api.ErrLimit
	}
	return l, api.OK
}

// compile returns the problem of the case, the candidates of its pairs, and the lines of its nodes.
func (d *desk) compile() (api.Problem, []api.Candidate, []api.Ref, api.Errno) {
	candidates, e := d.candidates()
	if e != api.OK {
		return api.Problem{}, nil, nil, e
	}
	var p api.Problem
	var lines []api.Ref
	node := map[api.Ref]int{}
	for _, x := range d.spots {
		if x.struck {
			continue
		}
		node[x.ref] = len(lines)
		lines = append(lines, x.ref)
		cost := d.Contest.Stranger
		if d.hasLog(x.Call) {
			cost = d.Contest.Lost
		}
		p.Alone = append(p.Alone, cost)
	}
	for i, x := range candidates {
		p.Pairs = append(p.Pairs, api.Pair{A: node[x.A], B: node[x.B], Cost: min(x.Left+x.Right, api.MaxCost)})
		duo := api.Duo{A: x.A, B: x.B}
		if d.force[duo] {
			p.Force = append(p.Force, i)
		}
		if d.forbid[duo] {
			p.Forbid = append(p.Forbid, i)
		}
	}
	return p, candidates, lines, api.OK
}

// statusAlone returns the status of a line that no reading of the problem puts in a pair.
func (d *desk) statusAlone(x *spot) int {
	switch {
	case x.struck:
		return api.StruckOut
	case d.hasLog(x.Call):
		return api.Refused
	}
	return api.Unchecked
}

// statusIn returns the status of a line in a pair, if there is one that the pair gives it: copied is what its copy of the other line costs.
func (d *desk) statusIn(pair, copied int) (int, bool) {
	switch {
	case pair == api.Possible:
		return api.Open, true
	case pair == api.Certain && copied <= d.Contest.Pardon:
		return api.Credited, true
	case pair == api.Certain:
		return api.Busted, true
	}
	return 0, false
}

// lines returns the statuses of all lines of the case.
func (d *desk) lines() ([][]int, api.Errno) {
	p, candidates, _, e := d.compile()
	if e != api.OK {
		return nil, e
	}
	statuses, e := Statuses(p)
	if e != api.OK {
		return nil, e
	}
	var all [][]int
	for log := range d.Logs {
		var l []int
		for _, x := range d.linesOf(log) {
			l = append(l, d.statusAlone(x))
		}
		all = append(all, l)
	}
	for i, x := range candidates {
		if status, has := d.statusIn(statuses[i], x.Left); has {
			all[x.A.Log][x.A.Line] = status
		}
		if status, has := d.statusIn(statuses[i], x.Right); has {
			all[x.B.Log][x.B.Line] = status
		}
	}
	return all, api.OK
}

// Candidates returns the lines that may be one contact.
func Candidates(c api.Case) ([]api.Candidate, api.Errno) {
	d, e := openCase(c)
	if e != api.OK {
		return nil, e
	}
	return d.candidates()
}

// Compile returns the problem of a case, and the lines of its nodes.
func Compile(c api.Case) (api.Problem, []api.Ref, api.Errno) {
	d, e := openCase(c)
	if e != api.OK {
		return api.Problem{}, nil, e
	}
	p, _, lines, e := d.compile()
	return p, lines, e
}

// Lines returns the statuses of all lines.
func Lines(c api.Case) ([][]int, api.Errno) {
	d, e := openCase(c)
	if e != api.OK {
		return nil, e
	}
	return d.lines()
}
