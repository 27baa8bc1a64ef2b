package clocks_test

import (
	"math/rand/v2"
	"slices"
	"testing"

	"pileup/api"
	"pileup/clocks"
)

// with returns a system with more ties behind its own.
func with(s api.System, l ...api.Tie) api.System {
	s.Ties = slices.Concat(s.Ties, l)
	return s
}

// closes reports whether a system has no loop.
func closes(s api.System) bool {
	_, e := clocks.FindLoop(s)
	return e == api.ErrNone
}

// accepts holds Accept, and Refusal of all ties, against what it should be.
func accepts(t *testing.T, name string, s api.System, l []api.Tie, want ...bool) {
	t.Helper()
	kept, offered := copyOf(s), slices.Clone(l)
	got, e := clocks.Accept(s, l)
	if !slices.Equal(got, want) || e != api.OK {
		t.Error(name, got, e)
		return
	}
	grown := s
	for i, x := range l {
		found, e := clocks.Refusal(s, l, i)
		if want[i] {
			grown = with(grown, x)
			if len(found) > 0 || e != api.ErrNone {
				t.Error(name, i, found, e)
			}
			continue
		}
		if ok, f := clocks.ValidLoop(with(grown, x), found); !ok || e+f != api.OK {
			t.Error(name, i, found, e, f)
		}
	}
	if !sameSystem(s, kept) || !slices.Equal(l, offered) {
		t.Error(name, "arguments are changed")
	}
}

// K20, K21: the example, repeated ties, ties in both directions, and ties that others rule out.
func TestAccept(t *testing.T) {
	good, wrong := tie(0, 0, 1, 0), tie(0, 0, 1, 1)
	back := api.Tie{A: good.B, B: good.A}
	accepts(t, "example", sample(), []api.Tie{wrong, good}, false, true)
	accepts(t, "none", sample(), nil)
	accepts(t, "repeated", sample(), []api.Tie{good, good, back, wrong, back, wrong}, true, true, true, false, true, false)
	accepts(t, "repeated in the system", sample(good, back), []api.Tie{back, wrong, good}, true, false, true)
	s := api.System{Tracks: []api.Track{track(10, 0, nil, 100), track(10, 0, nil, 100), track(0, 0, nil, 95, 105)}, Window: 1}
	accepts(t, "the first one wins", s, []api.Tie{tie(0, 0, 1, 0), tie(0, 0, 2, 0), tie(1, 0, 2, 1), tie(2, 0, 1, 0)}, true, true, false, true)
	accepts(t, "the other one wins", s, []api.Tie{tie(2, 1, 1, 0), tie(0, 0, 2, 0), tie(1, 0, 0, 0), tie(0, 0, 2, 1)}, true, true, false, false)
	accepts(t, "behind its own", with(s, tie(1, 0, 2, 1)), []api.Tie{tie(0, 0, 1, 0), tie(0, 0, 2, 0), tie(0, 0, 2, 1)}, true, false, true)
	crossed := api.System{Tracks: []api.Track{track(50, 0, nil, 100, 110), track(50, 0, nil, 100, 110)}, Window: 4}
	accepts(t, "crossed", crossed, []api.Tie{tie(0, 0, 1, 1), tie(0, 1, 1, 0), tie(1, 1, 0, 1)}, true, false, false)
	crossed.Window = 5
	accepts(t, "crossed, wider", crossed, []api.Tie{tie(0, 0, 1, 1), tie(0, 1, 1, 0), tie(1, 1, 0, 1)}, true, false, true)
	crossed.Window = 9
	accepts(t, "crossed, wide", crossed, []api.Tie{tie(0, 0, 1, 1), tie(0, 1, 1, 0), tie(1, 1, 0, 1)}, true, true, true)
}

// K20: the window that is just enough, and the one that is not.
func TestAcceptJust(t *testing.T) {
	for shown := range 12 {
		for window := range 8 {
			s := api.System{Tracks: []api.Track{track(2, 0, nil, 100), track(3, 0, nil, 100+shown)}, Window: window}
			accepts(t, "just", s, []api.Tie{tie(0, 0, 1, 0)}, shown <= 5+window)
			accepts(t, "just, turned", s, []api.Tie{tie(1, 0, 0, 0)}, shown <= 5+window)
		}
	}
}

// R7: what lies behind the ties of a system in memory stays as it is.
func TestTiesMemory(t *testing.T) {
	good, wrong := tie(0, 0, 1, 0), tie(0, 0, 1, 1)
	room := []api.Tie{good, good, good, good}
	s := sample(room[:1]...)
	offered := []api.Tie{tie(1, 1, 0, 1), wrong, good}
	accepts(t, "room", s, offered[:2], true, false)
	if !slices.Equal(room, []api.Tie{good, good, good, good}) || !slices.Equal(offered, []api.Tie{tie(1, 1, 0, 1), wrong, good}) {
		t.Error(room, offered)
	}
}

// K20, K21: the errors in their order.
func TestAcceptErrors(t *testing.T) {
	good, wrong, same, none := tie(0, 0, 1, 0), tie(0, 0, 1, 1), tie(0, 0, 0, 1), tie(0, 0, 2, 0)
	is := func(name string, s api.System, l []api.Tie, want api.Errno) {
		t.Helper()
		kept, offered := copyOf(s), slices.Clone(l)
		if got, e := clocks.Accept(s, l); len(got) > 0 || e != want {
			t.Error(name, got, e)
		}
		for i := range min(len(l), 3) {
			if got, e := clocks.Refusal(s, l, i); len(got) > 0 || e != want {
				t.Error(name, "Refusal", i, got, e)
			}
		}
		if !sameSystem(s, kept) || !slices.Equal(l, offered) {
			t.Error(name, "arguments are changed")
		}
	}
	invalid := sample()
	invalid.Window = -1
	is("Check", invalid, []api.Tie{none, same}, api.ErrSystem)
	for _, x := range []api.Tie{none, tie(-1, 0, 1, 0), tie(1, 0, -1, 0), tie(0, 0, 1, 2), tie(0, 0, 1, -1), tie(0, 2, 1, 0), tie(2, 0, 2, 0), tie(most, 0, least, 0)} {
		is("no line", sample(), []api.Tie{good, x}, api.ErrNone)
		is("no line, and one track", sample(), []api.Tie{same, x}, api.ErrNone)
		is("no line, and a loop", broken(), []api.Tie{x}, api.ErrNone)
	}
	for _, x := range []api.Tie{same, tie(0, 0, 0, 0), tie(1, 1, 1, 0)} {
		is("one track", sample(), []api.Tie{good, x, good}, api.ErrArg)
		is("one track, and a loop", broken(), []api.Tie{x}, api.ErrArg)
	}
	is("a loop", broken(), []api.Tie{good}, api.ErrLoop)
	lots := slices.Repeat([]api.Tie{good}, 400)
	is("a loop, and many", broken(), lots, api.ErrLoop)
	is("401", sample(good), lots, api.ErrLimit)
	is("401 more", sample(), append(lots, good), api.ErrLimit)
	is("401, and one track", sample(good), append(lots, same), api.ErrArg)
	accepts(t, "400", sample(lots[:390]...), append(lots[:8:8], wrong, good), true, true, true, true, true, true, true, true, false, true)
	for _, i := range []int{-1, 2, most, least} {
		for want, x := range map[api.Errno]struct {
			s api.System
			l []api.Tie
		}{api.ErrArg: {sample(), []api.Tie{good, wrong}}, api.ErrNone: {sample(), []api.Tie{good, none}}, api.ErrSystem: {invalid, nil}} {
			if got, e := clocks.Refusal(x.s, x.l, i); len(got) > 0 || e != want {
				t.Error(i, got, e, "want", want)
			}
		}
		for _, s := range []api.System{broken(), sample(lots...)} {
			if got, e := clocks.Refusal(s, []api.Tie{good, good}, i); len(got) > 0 || e != api.ErrArg {
				t.Error(i, got, e)
			}
		}
	}
	if got, e := clocks.Refusal(sample(), nil, 0); len(got) > 0 || e != api.ErrArg {
		t.Error(got, e)
	}
}

// K20: ties one after the other, held against systems that close or do not; K21 with the ties that were accepted alone.
func TestManyTies(t *testing.T) {
	r := rand.New(rand.NewPCG(3, 20))
	taken, refused := 0, 0
	for range 1500 {
		s := many().system(r)
		if !closes(s) {
			continue
		}
		l := many().tiesOf(r, s, 12)
		var want []bool
		grown := s
		for _, x := range l {
			ok := closes(with(grown, x))
			want = append(want, ok)
			if ok {
				grown = with(grown, x)
				taken++
			} else {
				refused++
			}
		}
		accepts(t, "many", s, l, want...)
	}
	if taken < 500 || refused < 500 {
		t.Error(taken, refused)
	}
}
