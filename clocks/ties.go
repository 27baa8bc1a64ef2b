package clocks

import (
	"slices"

	"pileup/api"
)

// Knots are the lines of ties, with the most by which each one may be later than each other one as far as the ties added so far say.
type knots struct {
	window int
	lines  []api.Ref
	index  map[api.Ref]int
	most   [][]int
}

// newKnots returns the lines of ties that lie in valid tracks, with no tie added yet.
func newKnots(tracks []api.Track, window int, l []api.Tie) *knots {
	k := &knots{window: window, index: map[api.Ref]int{}}
	for _, t := range l {
		k.name(t.A)
		k.name(t.B)
	}
	var nets []*net
	var starts []*wave
	for _, t := range tracks {
		n := newNet(api.System{Tracks: []api.Track{t}})
		w, _ := n.spread(beginning)
		nets = append(nets, n)
		starts = append(starts, w)
	}
	for _, a := range k.lines {
		w, _ := nets[a.Log].spread(api.Ref{Line: a.Line})
		k.most = append(k.most, k.row(a, w, starts))
	}
	return k
}

// name gives a line an index, unless it has one.
func (k *knots) name(r api.Ref) {
	if _, has := k.index[r]; !has {
		k.index[r] = len(k.lines)
		k.lines = append(k.lines, r)
	}
}

// row returns the most by which each line may be later than a line, given the wave from there in its track alone, and those from the beginning in all tracks alone.
func (k *knots) row(a api.Ref, w *wave, starts []*wave) []int {
	var row []int
	for _, b := range k.lines {
		place := 1 + b.Line
		if b.Log == a.Log {
			row = append(row, w.sums[place])
			continue
		}
		// Without ties, ways from one track to another one go through the beginning.
		row = append(row, w.sums[0]+starts[b.Log].sums[place])
	}
	return row
}

// add adds a tie if it can be true together with those added before, and reports whether it can.
func (k *knots) add(t api.Tie) bool {
	a, b := k.index[t.A], k.index[t.B]
	if k.most[a][b] < -k.window || k.most[b][a] < -k.window {
		return false
	}
	k.tighten(a, b)
	k.tighten(b, a)
	return true
}

// tighten lets b be later than a by at most the window.
func (k *knots) tighten(a, b int) {
	if k.most[a][b] <= k.window {
		return
	}
	// The row of b stays as it is meanwhile, since the tie can be true.
	behind := k.most[b]
	for _, row := range k.most {
		ahead := row[a] + k.window
		for j, more := range behind {
			row[j] = min(row[j], ahead+more)
		}
	}
}

// checkOffer returns the errors of Accept ahead of ErrLoop.
func checkOffer(s api.System, l []api.Tie) api.Errno {
	if e := Check(s); e != api.OK {
		return e
	}
	return checkTies(s, l)
}

// Accept reports of each of some ties whether it can be added to a system behind those that were accepted before it.
func Accept(s api.System, l []api.Tie) ([]bool, api.Errno) {
	if e := checkOffer(s, l); e != api.OK {
		return nil, e
	}
	if _, found := newNet(s).spread(beginning); found != nil {
		return nil, api.ErrLoop
	}
	if len(s.Ties)+len(l) > api.MaxTies {
		return nil, api.ErrLimit
	}
	k := newKnots(s.Tracks, s.Window, slices.Concat(s.Ties, l))
	for _, t := range s.Ties {
		k.add(t)
	}
	var accepted []bool
	for _, t := range l {
		accepted = append(accepted, k.add(t))
	}
	return accepted, api.OK
}

// Refusal returns a loop because of which a tie is not accepted.
func Refusal(s api.System, l []api.Tie, i int) ([]api.Bound, api.Errno) {
	if e := checkOffer(s, l); e != api.OK {
		return nil, e
	}
	if !within(i, 0, len(l)-1) {
		return nil, api.ErrArg
	}
	accepted, e := Accept(s, l)
	switch {
	case e != api.OK:
		return nil, e
	case accepted[i]:
		return nil, api.ErrNone
	}
	// A copy, so that what lies behind the ties in their memory is not written over.
	s.Ties = slices.Clone(s.Ties)
	for k, t := range l[:i] {
		if accepted[k] {
			s.Ties = append(s.Ties, t)
		}
	}
	s.Ties = append(s.Ties, l[i])
	return FindLoop(s)
}
