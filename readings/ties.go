package readings

import (
	"slices"

	"pileup/air"
	"pileup/api"
	"pileup/clocks"
	"pileup/logs"
)

// A spot is a line of a case: what stands in it, the call of its log, its band (none: it is in no band), whether it is struck, and whether it is in a duo of Force.
type spot struct {
	api.Line
	ref            api.Ref
	station        string
	band           int
	struck, forced bool
}

// A desk is a valid case on which work is done, with what is looked up in it: its lines, the indices at which the lines of each log begin (and that at which the last one ends), the indices of the logs of calls, and its duos.
type desk struct {
	api.Case
	spots         []*spot
	starts        []int
	logOf         map[string]int
	force, forbid map[api.Duo]bool
}

// openCase returns the desk for a case.
func openCase(c api.Case) (*desk, api.Errno) {
	if e, _ := CheckCase(c); e != api.OK {
		return nil, e
	}
	d := &desk{Case: c, logOf: map[string]int{}, force: setOf(c.Force), forbid: setOf(c.Forbid)}
	struck, inForce := setOf(c.Struck), setOf(ends(c.Force))
	for i, l := range c.Logs {
		d.logOf[l.Call] = i
		d.starts = append(d.starts, len(d.spots))
		for j, x := range l.Lines {
			r := api.Ref{Log: i, Line: j}
			d.spots = append(d.spots, &spot{x, r, l.Call, bandOf(c.Contest, x), struck[r], inForce[r]})
		}
	}
	d.starts = append(d.starts, len(d.spots))
	return d, api.OK
}

// bandOf returns the band of a line.
func bandOf(c api.Contest, x api.Line) int {
	band, e := air.BandOf(c.Bands, x.Khz)
	if e != api.OK {
		return none
	}
	return band
}

// linesOf returns the lines of a log.
func (d *desk) linesOf(log int) []*spot { return d.spots[d.starts[log]:d.starts[log+1]] }

// hasLog reports whether a call is that of a log.
func (d *desk) hasLog(call string) bool {
	_, has := d.logOf[call]
	return has
}

// together reports whether two lines are in one band and one mode.
func together(a, b *spot) bool { return a.band != none && a.band == b.band && a.Mode == b.Mode }

// agree reports whether two lines, a of an earlier log, are taken for one contact at first sight.
func (d *desk) agree(a, b *spot) bool {
	judged := a.struck || b.struck || a.forced || b.forced || d.forbid[api.Duo{A: a.ref, B: b.ref}]
	apart := max(a.Minute-b.Minute, b.Minute-a.Minute)
	return !judged && together(a, b) && a.Call == b.station && b.Call == a.station &&
		a.Got == b.Sent && b.Got == a.Sent && apart <= 2*d.Contest.Slip+d.Contest.Window
}

// A side is a line with a log in which lines may agree with it.
type side struct {
	line api.Ref
	log  int
}

// ties returns the ties of the case.
func (d *desk) ties() []api.Tie {
	var l, agreeing []api.Tie
	for _, x := range d.Force {
		l = append(l, api.Tie(x))
	}
	partners := map[side]int{}
	for _, a := range d.spots {
		// Only lines of the log that a names can agree with a.
		log, has := d.logOf[a.Call]
		if !has || log <= a.ref.Log {
			continue
		}
		for _, b := range d.linesOf(log) {
			if d.agree(a, b) {
				agreeing = append(agreeing, api.Tie{A: a.ref, B: b.ref})
				partners[side{a.ref, b.ref.Log}]++
				partners[side{b.ref, a.ref.Log}]++
			}
		}
	}
	for _, t := range agreeing {
		if partners[side{t.A, t.B.Log}] == 1 && partners[side{t.B, t.A.Log}] == 1 {
			l = append(l, t)
		}
	}
	return l[:min(len(l), api.MaxTies)]
}

// system returns the system of the case.
func (d *desk) system() api.System {
	s := api.System{Window: d.Contest.Window}
	for _, l := range d.Logs {
		clock := api.Clock{Slip: d.Contest.Slip, Drift: d.Contest.Drift, Jumps: slices.Clone(l.Jumps)}
		s.Tracks = append(s.Tracks, api.Track{Clock: clock, Times: logs.Times(l)})
	}
	ties := d.ties()
	// Without ties the minutes that clocks showed may be true: the system closes.
	accepted, _ := clocks.Accept(s, ties)
	for i, t := range ties {
		if accepted[i] {
			s.Ties = append(s.Ties, t)
		}
	}
	return s
}

// Ties returns the lines that are taken for one contact at first sight.
func Ties(c api.Case) ([]api.Tie, api.Errno) {
	d, e := openCase(c)
	if e != api.OK {
		return nil, e
	}
	return d.ties(), api.OK
}

// System returns the clocks of a case with the ties that are accepted.
func System(c api.Case) (api.System, api.Errno) {
	d, e := openCase(c)
	if e != api.OK {
		return api.System{}, e
	}
	return d.system(), api.OK
}
