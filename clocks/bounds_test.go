package clocks_test

import (
	"math/rand/v2"
	"slices"
	"testing"

	"pileup/api"
	"pileup/clocks"
)

// slip, order, drift and tied are short ways to write bounds.
func slip(from, to api.Ref, most, id int) api.Bound {
	return api.Bound{From: from, To: to, Most: most, Kind: api.BoundSlip, ID: id}
}
func order(from, to api.Ref, id int) api.Bound {
	return api.Bound{From: from, To: to, Kind: api.BoundOrder, ID: id}
}
func drift(from, to api.Ref, most, id int) api.Bound {
	return api.Bound{From: from, To: to, Most: most, Kind: api.BoundDrift, ID: id}
}
func tied(from, to api.Ref, most, id int) api.Bound {
	return api.Bound{From: from, To: to, Most: most, Kind: api.BoundTie, ID: id}
}

// boundsOf returns the bounds of a system that must be valid.
func boundsOf(t *testing.T, s api.System) []api.Bound {
	t.Helper()
	l, e := clocks.Bounds(s)
	if e != api.OK {
		t.Fatal(s, e)
	}
	return l
}

// K5: the example, whole; the order of all bounds.
func TestBounds(t *testing.T) {
	a, b, c, d := line(0, 0), line(0, 1), line(1, 0), line(1, 1)
	want := []api.Bound{
		slip(beginning, a, 110, 0), slip(a, beginning, -90, 0), slip(beginning, b, 170, 1), slip(b, beginning, -150, 1),
		slip(beginning, c, 98, 0), slip(c, beginning, -92, 0), slip(beginning, d, 161, 1), slip(d, beginning, -155, 1),
		order(b, a, 0), drift(a, b, 61, 0), drift(b, a, -59, 0),
		order(d, c, 0), drift(c, d, 64, 0), drift(d, c, -62, 0),
		tied(a, c, 2, 0), tied(c, a, 2, 0), tied(d, b, 2, 1), tied(b, d, 2, 1), tied(a, c, 2, 2), tied(c, a, 2, 2),
	}
	if l := boundsOf(t, sample(tie(0, 0, 1, 0), tie(1, 1, 0, 1), tie(0, 0, 1, 0))); !slices.Equal(l, want) {
		t.Error(l)
	}
	if l := boundsOf(t, sample()); !slices.Equal(l, want[:14]) {
		t.Error(l)
	}
	for _, s := range []api.System{{}, {Tracks: make([]api.Track, 64)}, {Tracks: []api.Track{track(5, 5, []int{5})}}} {
		if l := boundsOf(t, s); len(l) > 0 {
			t.Error(s, l)
		}
	}
	one := api.System{Tracks: []api.Track{{}, track(7, 0, nil, 3), {}}}
	if l := boundsOf(t, one); !slices.Equal(l, []api.Bound{slip(beginning, line(1, 0), 10, 0), slip(line(1, 0), beginning, 4, 0)}) {
		t.Error(l)
	}
	for want, s := range map[api.Errno]api.System{api.ErrLimit: {Tracks: make([]api.Track, 65)}, api.ErrSystem: {Window: -1}} {
		if l, e := clocks.Bounds(s); len(l) > 0 || e != want {
			t.Error(l, e)
		}
	}
}

// K5: jumps between two lines and on them.
func TestBoundsAtJumps(t *testing.T) {
	for _, x := range []struct {
		jumps []int
		want  bool
	}{
		{nil, true}, {[]int{9}, true}, {[]int{10}, true}, {[]int{11}, false}, {[]int{19}, false}, {[]int{20}, false}, {[]int{21}, true},
		{[]int{0, 10, 21, 20000}, true}, {[]int{10, 20}, false}, {[]int{11, 12, 13}, false},
	} {
		l := boundsOf(t, api.System{Tracks: []api.Track{track(0, 0, x.jumps, 10, 20)}})
		want := []api.Bound{order(line(0, 1), line(0, 0), 0)}
		if x.want {
			want = append(want, drift(line(0, 0), line(0, 1), 11, 0), drift(line(0, 1), line(0, 0), -9, 0))
		}
		if !slices.Equal(l[4:], want) {
			t.Error(x, l)
		}
	}
	same := boundsOf(t, api.System{Tracks: []api.Track{track(0, 0, []int{10}, 10, 10)}})
	if !slices.Equal(same[4:], []api.Bound{order(line(0, 1), line(0, 0), 0), drift(line(0, 0), line(0, 1), 1, 0), drift(line(0, 1), line(0, 0), 1, 0)}) {
		t.Error("a jump on two lines at one minute", same)
	}
	l := boundsOf(t, api.System{Tracks: []api.Track{track(0, 0, []int{15}, 10, 20, 30)}})
	if !slices.Equal(l[6:], []api.Bound{order(line(0, 1), line(0, 0), 0), order(line(0, 2), line(0, 1), 1), drift(line(0, 1), line(0, 2), 11, 1), drift(line(0, 2), line(0, 1), -9, 1)}) {
		t.Error("a jump ahead", l)
	}
}

// K5: drift that is, or is not, a whole number of minutes.
func TestBoundsOfDrift(t *testing.T) {
	for _, x := range []struct{ drift, shown, wrong int }{
		{0, 0, 1}, {0, 20000, 1}, {100, 0, 1}, {1, 1, 2}, {1, 999, 2}, {1, 1000, 2}, {1, 1001, 3}, {100, 9, 2}, {100, 10, 2}, {100, 11, 3}, {50, 20, 2}, {50, 21, 3}, {3, 333, 2}, {3, 334, 3}, {100, 20000, 2001}, {99, 20000, 1981},
	} {
		l := boundsOf(t, api.System{Tracks: []api.Track{track(0, x.drift, nil, 0, x.shown)}})
		if !slices.Equal(l[5:], []api.Bound{drift(line(0, 0), line(0, 1), x.shown+x.wrong, 0), drift(line(0, 1), line(0, 0), x.wrong-x.shown, 0)}) {
			t.Error(x, l)
		}
	}
}

// K15: each kind of bound, kept just so and just not; times that are none.
func TestKeeps(t *testing.T) {
	s := sample(tie(0, 0, 1, 0))
	s.Tracks[0].Clock.Jumps = []int{130}
	is := func(name string, s api.System, want bool, l ...[]int) {
		t.Helper()
		kept := slices.Clone(l)
		for i := range kept {
			kept[i] = slices.Clone(l[i])
		}
		if ok, e := clocks.Keeps(s, l); ok != want || e != api.OK || !sameLists(l, kept) {
			t.Error(name, ok, e)
		}
	}
	is("shown", s, false, []int{100, 160}, []int{95, 158})
	is("kept", s, true, []int{97, 160}, []int{95, 158})
	is("other way", s, true, []int{93, 160}, []int{95, 158})
	is("window", s, false, []int{98, 160}, []int{95, 158})
	is("window, other way", s, false, []int{92, 160}, []int{95, 158})
	is("slip", s, true, []int{97, 170}, []int{95, 158})
	is("slip", s, false, []int{97, 171}, []int{95, 158})
	is("slip below", s, true, []int{97, 150}, []int{95, 158})
	is("slip below", s, false, []int{97, 149}, []int{95, 158})
	is("drift", s, true, []int{97, 160}, []int{95, 159})
	is("drift", s, false, []int{97, 160}, []int{95, 160})
	is("drift below", s, true, []int{97, 160}, []int{96, 158})
	is("drift below", s, false, []int{97, 160}, []int{97, 158})
	is("no track", s, false)
	is("a track less", s, false, []int{97, 160})
	is("a track more", s, false, []int{97, 160}, []int{95, 158}, nil)
	is("a line less", s, false, []int{97, 160}, []int{95})
	is("a line more", s, false, []int{97, 160}, []int{95, 158, 160})
	is("beyond", s, false, []int{97, most}, []int{95, 158})
	is("beyond below", s, false, []int{least, 160}, []int{95, 158})
	is("not closed", broken(), false, []int{97, 160}, []int{95, 158})
	is("zero", api.System{}, true)
	is("zero and a track", api.System{}, false, nil)
	is("no lines", api.System{Tracks: make([]api.Track, 2)}, true, nil, []int{})
	one := api.System{Tracks: []api.Track{track(10, 0, nil, 100)}}
	is("far below", one, false, []int{least})
	is("far below", one, false, []int{least + 90})
	is("far beyond", one, false, []int{most})
	jump := api.System{Tracks: []api.Track{track(10, 0, []int{15}, 10, 20)}}
	is("order", jump, true, []int{15, 15})
	is("order", jump, false, []int{16, 15})
	is("negative", api.System{Tracks: []api.Track{track(10, 0, nil, 0)}}, true, []int{-10})
	for _, s := range []api.System{{Window: -1}, {Ties: make([]api.Tie, 1)}} {
		if ok, e := clocks.Keeps(s, nil); ok || e != api.ErrSystem {
			t.Error(s, ok, e)
		}
	}
	if ok, e := clocks.Keeps(api.System{Tracks: make([]api.Track, 65)}, nil); ok || e != api.ErrLimit {
		t.Error(ok, e)
	}
}

// spoilt returns lists of bounds that differ from one in one place.
func spoilt(l []api.Bound) [][]api.Bound {
	var all [][]api.Bound
	for i := range l {
		for _, c := range []func(*api.Bound){
			func(b *api.Bound) { b.From.Log++ }, func(b *api.Bound) { b.From.Line-- }, func(b *api.Bound) { b.To.Log = most }, func(b *api.Bound) { b.To.Line++ }, func(b *api.Bound) { b.From, b.To = b.To, b.From },
			func(b *api.Bound) { b.Most++ }, func(b *api.Bound) { b.Most-- }, func(b *api.Bound) { b.Most = least }, func(b *api.Bound) { b.Kind = 0 }, func(b *api.Bound) { b.Kind = 5 - b.Kind }, func(b *api.Bound) { b.ID++ }, func(b *api.Bound) { b.ID = -1 },
			func(b *api.Bound) { *b = api.Bound{} },
		} {
			m := slices.Clone(l)
			c(&m[i])
			all = append(all, m)
		}
		all = append(all, slices.Delete(slices.Clone(l), i, i+1), slices.Insert(slices.Clone(l), i, l[i]))
	}
	return all
}

// K17.
func TestValidLoop(t *testing.T) {
	s := broken()
	l := []api.Bound{slip(beginning, line(0, 0), 110, 0), tied(line(0, 0), line(1, 1), 2, 0), slip(line(1, 1), beginning, -155, 1)}
	is := func(name string, s api.System, l []api.Bound, want bool) {
		t.Helper()
		kept := slices.Clone(l)
		if ok, e := clocks.ValidLoop(s, l); ok != want || e != api.OK || !slices.Equal(l, kept) {
			t.Error(name, ok, e)
		}
	}
	is("the example", s, l, true)
	is("from another ref on", s, []api.Bound{l[1], l[2], l[0]}, true)
	is("twice", s, slices.Concat(l, l), true)
	is("30000 bounds", s, slices.Repeat(l, 10000), true)
	is("too long", s, slices.Repeat(l, 10001), false)
	is("none", s, nil, false)
	is("no system of it", sample(), l, false)
	is("nor this", sample(tie(0, 0, 1, 0)), l, false)
	is("in the other order", s, []api.Bound{l[2], l[1], l[0]}, false)
	is("not closed", s, l[:2], false)
	is("the sum is more", s, []api.Bound{l[0], slip(line(0, 0), beginning, -90, 0)}, false)
	for _, m := range spoilt(l) {
		is("spoilt", s, m, false)
	}
	exact := api.System{Tracks: []api.Track{track(0, 0, nil, 5), track(0, 0, nil, 7)}, Ties: []api.Tie{tie(1, 0, 0, 0)}, Window: 2}
	around := func(window int) []api.Bound {
		return []api.Bound{slip(beginning, line(0, 0), 5, 0), tied(line(0, 0), line(1, 0), window, 0), slip(line(1, 0), beginning, -7, 0)}
	}
	is("the sum is 0", exact, around(2), false)
	exact.Window = 1
	is("the sum is -1", exact, around(1), true)
	for want, s := range map[api.Errno]api.System{api.ErrLimit: {Tracks: make([]api.Track, 65)}, api.ErrSystem: {Window: 121}} {
		for _, l := range [][]api.Bound{l, nil} {
			if ok, e := clocks.ValidLoop(s, l); ok || e != want {
				t.Error(ok, e, "want", want)
			}
		}
	}
}

// K19.
func TestValidPath(t *testing.T) {
	s := sample(tie(0, 0, 1, 0))
	r, far := line(0, 0), line(1, 0)
	up := []api.Bound{slip(beginning, far, 98, 0), tied(far, r, 2, 0)}
	down := []api.Bound{tied(r, far, 2, 0), slip(far, beginning, -92, 0)}
	is := func(name string, r api.Ref, latest bool, l []api.Bound, want int) {
		t.Helper()
		kept := slices.Clone(l)
		if n, e := clocks.ValidPath(s, r, latest, l); n != want || e != api.OK || !slices.Equal(l, kept) {
			t.Error(name, n, e)
		}
	}
	not := func(name string, r api.Ref, latest bool, l []api.Bound) {
		t.Helper()
		if n, e := clocks.ValidPath(s, r, latest, l); n != 0 || e != api.ErrPath {
			t.Error(name, n, e)
		}
	}
	is("the example", r, true, up, 100)
	is("the other end", r, false, down, 90)
	is("proves less", r, true, []api.Bound{slip(beginning, r, 110, 0)}, 110)
	is("proves less below", r, false, []api.Bound{slip(r, beginning, -90, 0)}, 90)
	is("part", far, true, up[:1], 98)
	round := []api.Bound{slip(beginning, r, 110, 0), slip(r, beginning, -90, 0)}
	is("not straight", r, true, slices.Concat(round, up), 120)
	is("30000 bounds", r, true, slices.Concat(slices.Repeat(round, 14999), up), 100+20*14999)
	not("30001 bounds", r, true, slices.Concat(slices.Repeat(round, 15000), round[:1]))
	not("too long", r, true, slices.Concat(slices.Repeat(round, 15000), up))
	not("none", r, true, nil)
	not("none", r, false, nil)
	not("another line", far, true, up)
	not("another line", far, false, down)
	not("the wrong way", r, false, up)
	not("the wrong way", r, true, down)
	not("in the wrong order", r, true, []api.Bound{up[1], up[0]})
	not("does not begin there", r, true, up[1:])
	not("does not end there", r, false, down[:1])
	for _, m := range spoilt(up) {
		not("spoilt", r, true, m)
	}
	for _, m := range spoilt(down) {
		not("spoilt", r, false, m)
	}
	s = broken()
	is("not closed", r, true, []api.Bound{slip(beginning, r, 110, 0)}, 110)
	is("not closed", r, false, []api.Bound{tied(r, line(1, 1), 2, 0), slip(line(1, 1), beginning, -155, 1)}, 153)
}

// Bounds says what the words of the document say: its bounds are kept exactly by the times that the words allow.
func TestBoundsAreTheWords(t *testing.T) {
	r := rand.New(rand.NewPCG(3, 5))
	kept := 0
	for range 4000 {
		s := few().system(r)
		all := boundsOf(t, s)
		for range 20 {
			var l [][]int
			for _, x := range s.Tracks {
				var minutes []int
				for _, minute := range x.Times {
					minutes = append(minutes, minute+r.IntN(5)-2)
				}
				l = append(l, minutes)
			}
			want := allowed(s, l)
			at := func(r api.Ref) int {
				if r == beginning {
					return 0
				}
				return l[r.Log][r.Line]
			}
			ok, e := clocks.Keeps(s, l)
			if ok != want || e != api.OK || want == slices.ContainsFunc(all, func(b api.Bound) bool { return at(b.To) > at(b.From)+b.Most }) {
				t.Fatal(s, l, ok, e, want)
			}
			if want {
				kept++
			}
		}
	}
	if kept < 1000 {
		t.Error("few times are kept:", kept)
	}
}
