package air

import "pileup/api"

// ValidBands reports whether a list of bands is valid.
func ValidBands(l []api.Band) bool {
	if len(l) > api.MaxBands {
		return false
	}
	id, hi := 0, 0
	for _, b := range l {
		if b.ID <= id || b.ID > api.MaxID || b.Lo <= hi || b.Lo > b.Hi || b.Hi > api.MaxKhz {
			return false
		}
		id, hi = b.ID, b.Hi
	}
	return true
}

// checkKhz returns the errors that lists of bands and frequencies have in common.
func checkKhz(l []api.Band, khz int) api.Errno {
	switch {
	case !ValidBands(l):
		return api.ErrBands
	case !within(khz, 1, api.MaxKhz):
		return api.ErrArg
	}
	return api.OK
}

// distance returns how far a frequency is from a band.
func distance(b api.Band, khz int) int { return max(b.Lo-khz, khz-b.Hi, 0) }

// BandOf returns the ID of the band that contains a frequency.
func BandOf(l []api.Band, khz int) (int, api.Errno) {
	band, off, e := Nearest(l, khz)
	if e == api.OK && off > 0 {
		return 0, api.ErrNone
	}
	return band, e
}

// Nearest returns the ID of the band that is nearest to a frequency, and how far it is.
func Nearest(l []api.Band, khz int) (band, off int, e api.Errno) {
	if e := checkKhz(l, khz); e != api.OK {
		return 0, 0, e
	}
	if len(l) == 0 {
		return 0, 0, api.ErrNone
	}
	best := l[0]
	for _, b := range l[1:] {
		// Bands rise, so of two that are as near the first one has the lesser Lo.
		if distance(b, khz) < distance(best, khz) {
			best = b
		}
	}
	return best.ID, distance(best, khz), api.OK
}
