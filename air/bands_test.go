package air_test

import (
	"slices"
	"testing"

	"pileup/air"
	"pileup/api"
)

// band is a short way to write a band.
func band(id, lo, hi int) api.Band { return api.Band{ID: id, Lo: lo, Hi: hi} }

// manyBands returns n bands of one frequency each.
func manyBands(n int) []api.Band {
	var l []api.Band
	for i := range n {
		l = append(l, band(i+1, 10*i+10, 10*i+10))
	}
	return l
}

// A1: what makes a list of bands valid, and what does not.
func TestValidBands(t *testing.T) {
	for i, l := range [][]api.Band{
		nil,
		{},
		{band(1, 1, 1)},
		{band(65535, 1, 10000000)},
		{band(1, 1800, 2000), band(2, 3500, 3800)},
		{band(1, 1800, 2000), band(9, 2001, 3800)},
		manyBands(16),
	} {
		if !air.ValidBands(l) {
			t.Error("not valid:", i)
		}
	}
	for i, l := range badBands() {
		if air.ValidBands(l) {
			t.Error("valid:", i)
		}
	}
}

// badBands returns lists of bands that are not valid.
func badBands() [][]api.Band {
	return [][]api.Band{
		{band(0, 1, 2)},
		{band(-1, 1, 2)},
		{band(65536, 1, 2)},
		{band(1, 0, 2)},
		{band(1, -5, 2)},
		{band(1, 3, 2)},
		{band(1, 1, 10000001)},
		{band(1, 10000001, 10000001)},
		{band(1, 1800, 2000), band(2, 2000, 2100)},
		{band(1, 1800, 2000), band(2, 1900, 2100)},
		{band(1, 1800, 2000), band(2, 1, 5)},
		{band(1, 1800, 2000), band(1, 2001, 2100)},
		{band(2, 1800, 2000), band(1, 2001, 2100)},
		{band(1, 1800, 2000), band(2, 3500, 3400)},
		{band(1<<63-1, 1, 2)},
		{band(1, -1<<63, 2)},
		{band(1, 1, 1<<63-1)},
		{band(1, 1800, 2000), band(2, 3500, 3600), band(3, 3600, 3700)},
		manyBands(17),
	}
}

// A2, A3: the examples of the chapter, the ends of bands, and the errors in their order.
func TestBandExamples(t *testing.T) {
	l := []api.Band{band(1, 1800, 2000), band(2, 3500, 3800)}
	for _, x := range []struct {
		khz, band      int
		e              api.Errno
		nearest, apart int
	}{
		{1900, 1, api.OK, 1, 0},
		{1800, 1, api.OK, 1, 0},
		{2000, 1, api.OK, 1, 0},
		{1799, 0, api.ErrNone, 1, 1},
		{2001, 0, api.ErrNone, 1, 1},
		{2500, 0, api.ErrNone, 1, 500},
		{2749, 0, api.ErrNone, 1, 749},
		{2750, 0, api.ErrNone, 1, 750},
		{2751, 0, api.ErrNone, 2, 749},
		{3499, 0, api.ErrNone, 2, 1},
		{3500, 2, api.OK, 2, 0},
		{3800, 2, api.OK, 2, 0},
		{3801, 0, api.ErrNone, 2, 1},
		{1, 0, api.ErrNone, 1, 1799},
		{10000000, 0, api.ErrNone, 2, 9996200},
	} {
		if b, e := air.BandOf(l, x.khz); b != x.band || e != x.e {
			t.Error("BandOf", x.khz, b, e)
		}
		if b, off, e := air.Nearest(l, x.khz); b != x.nearest || off != x.apart || e != api.OK {
			t.Error("Nearest", x.khz, b, off, e)
		}
	}
}

func TestBandErrors(t *testing.T) {
	good := []api.Band{band(1, 1, 10000000)}
	check := func(name string, l []api.Band, khz int, of, near api.Errno) {
		if b, e := air.BandOf(l, khz); b != 0 || e != of {
			t.Error("BandOf", name, b, e)
		}
		if b, off, e := air.Nearest(l, khz); b != 0 || off != 0 || e != near {
			t.Error("Nearest", name, b, off, e)
		}
	}
	for _, khz := range []int{0, -1, 10000001, -1 << 63, 1<<63 - 1} {
		check("khz", good, khz, api.ErrArg, api.ErrArg)
		check("khz without bands", nil, khz, api.ErrArg, api.ErrArg)
	}
	for _, l := range badBands() {
		check("bands", l, 5, api.ErrBands, api.ErrBands)
		check("bands and khz", l, 0, api.ErrBands, api.ErrBands)
	}
	check("no bands", nil, 7, api.ErrNone, api.ErrNone)
	check("empty bands", []api.Band{}, 7, api.ErrNone, api.ErrNone)
	for _, khz := range []int{1, 10000000} {
		if b, e := air.BandOf(good, khz); b != 1 || e != api.OK {
			t.Error(khz, b, e)
		}
	}
}

// P1.2: for every frequency around some bands, held against all bands one by one.
func TestBandPromise(t *testing.T) {
	for _, l := range [][]api.Band{
		{band(3, 20, 20), band(4, 21, 30), band(8, 40, 41), band(9, 46, 60)},
		{band(7, 1, 1), band(65535, 100, 100)},
		{band(5, 50, 60)},
		manyBands(16),
	} {
		kept := slices.Clone(l)
		for khz := 1; khz <= 200; khz++ {
			checkNearest(t, l, khz)
		}
		if !slices.Equal(l, kept) {
			t.Error("bands are changed")
		}
	}
}

// checkNearest holds what is told of a frequency against each band.
func checkNearest(t *testing.T, l []api.Band, khz int) {
	id, off, e := air.Nearest(l, khz)
	of, f := air.BandOf(l, khz)
	best, least := 0, 1<<30
	for _, b := range l {
		apart := 0
		if khz < b.Lo {
			apart = b.Lo - khz
		} else if khz > b.Hi {
			apart = khz - b.Hi
		}
		if apart < least {
			best, least = b.ID, apart
		}
	}
	if e != api.OK || id != best || off != least {
		t.Error(khz, id, off, e, "want", best, least)
	}
	if off == 0 && (of != id || f != api.OK) || off > 0 && (of != 0 || f != api.ErrNone) {
		t.Error(khz, id, off, of, f)
	}
	up, _ := air.BandOf(l, khz+off)
	down, _ := air.BandOf(l, max(khz-off, 1))
	if up != id && down != id {
		t.Error(khz, id, off, up, down)
	}
}
