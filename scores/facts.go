package scores

import (
	"cmp"

	"pileup/air"
	"pileup/api"
)

// A visit is a station on a day.
type visit struct {
	call string
	day  int
}

// place returns the place of a station on a day; it is zero for none, and for what is no call sign.
func (d *desk) place(v visit) api.Place {
	p, known := d.places[v]
	if !known {
		p, _ = air.PlaceOf(d.Contest.Table, v.call, v.day)
		d.places[v] = p
	}
	return p
}

// side returns the other line of a pair, and what a line's own copy of it costs.
func (d *desk) side(x api.Ref, pair int) (other api.Ref, copied int) {
	k := d.candidates[pair]
	if k.A == x {
		return k.B, k.Left
	}
	return k.A, k.Right
}

// status returns the status of a line in a pair.
func (d *desk) status(x api.Ref, pair int) int {
	switch {
	case pair == leftOpen:
		return api.Open
	case d.struck[x]:
		return api.StruckOut
	case pair == alone && d.calls[d.line(x).Call]:
		return api.Refused
	case pair == alone:
		return api.Unchecked
	}
	if _, copied := d.side(x, pair); copied <= d.Contest.Pardon {
		return api.Credited
	}
	return api.Busted
}

// facts returns the facts of a line in a pair.
func (d *desk) facts(x api.Ref, pair int) []int {
	log, line := d.Logs[x.Log], d.line(x)
	// In a valid case the minutes of a contest lie on days, and what has no band has none.
	day, _ := air.DayOf(d.Contest.Day, line.Minute)
	band, _ := air.BandOf(d.Contest.Bands, line.Khz)
	call, number := line.Call, 0
	if pair != alone {
		other, _ := d.side(x, pair)
		call, number = d.Logs[other.Log].Call, other.Log+1
	}
	mine, theirs := d.place(visit{log.Call, day}), d.place(visit{call, day})
	return []int{
		api.FieldBand:        band,
		api.FieldMode:        line.Mode,
		api.FieldHour:        line.Minute / 60,
		api.FieldMyCountry:   mine.Country,
		api.FieldMyZone:      mine.Zone,
		api.FieldMyContinent: mine.Continent,
		api.FieldCountry:     theirs.Country,
		api.FieldZone:        theirs.Zone,
		api.FieldContinent:   theirs.Continent,
		api.FieldCall:        number,
		api.FieldGotZone:     line.Got.Zone,
		api.FieldCategory:    log.Category,
		api.FieldPower:       log.Power,
		api.FieldStatus:      d.status(x, pair),
	}
}

// openLine returns the desk for a case, and the pair of a reading in which a line is.
func openLine(c api.Case, r []int, line api.Ref) (d *desk, pair int, e api.Errno) {
	d, e = openDesk(c)
	if e != api.OK {
		return nil, 0, e
	}
	if e := cmp.Or(d.checkReading(r), d.checkLine(line)); e != api.OK {
		return nil, 0, e
	}
	return d, d.seat(r, nil).pairOf(line), api.OK
}

// Facts returns the facts of a line in a reading.
func Facts(c api.Case, r []int, line api.Ref) ([]int, api.Errno) {
	d, pair, e := openLine(c, r, line)
	if e != api.OK {
		return nil, e
	}
	return d.facts(line, pair), api.OK
}

// Status returns the status of a line in a reading.
func Status(c api.Case, r []int, line api.Ref) (int, api.Errno) {
	d, pair, e := openLine(c, r, line)
	if e != api.OK {
		return 0, e
	}
	return d.status(line, pair), api.OK
}
