package conduct_test

import (
	"slices"
	"testing"

	"pileup/api"
	"pileup/conduct"
)

// gap, hour, changes, onAir, rest and share are the rules of the examples with another number.
func gap(n int) api.Conduct  { return ruled(func(k *api.Conduct) { k.Gap = n }) }
func hour(n int) api.Conduct { return ruled(func(k *api.Conduct) { k.Hour = n }) }
func changes(n, hour int) api.Conduct {
	return ruled(func(k *api.Conduct) { k.Changes, k.Hour = n, hour })
}
func onAir(n, rest int) api.Conduct {
	return ruled(func(k *api.Conduct) { k.Minutes, k.Rest = n, rest })
}
func share(n int) api.Conduct { return ruled(func(k *api.Conduct) { k.Share = n }) }

// N4, N15: two lines whose delay is exactly Gap at most, and one less; lines on no band between lines on bands; struck lines.
func TestSignals(t *testing.T) {
	shared := tuned(low, low, middle)
	for i := range shared.Logs[0].Lines {
		shared.Logs[0].Lines[i].Minute = 7
	}
	for i, x := range []struct {
		c    api.Case
		k    api.Conduct
		want [][]int
	}{
		{example(), gap(2), nil}, {example(), gap(3), [][]int{{0, 1}, {2, 3}}}, {example(), gap(4), [][]int{{0, 1}, {1, 2}, {2, 3}}}, {example(), gap(0), nil}, {example(), gap(1), nil},
		{example(), gap(37), [][]int{{0, 1}, {1, 2}, {2, 3}}}, {example(), gap(38), [][]int{{0, 1}, {1, 2}, {2, 3}, {3, 4}}}, {example(), gap(20000), [][]int{{0, 1}, {1, 2}, {2, 3}, {3, 4}}},
		{tuned(low, middle), gap(2), [][]int{{0, 1}}}, {tuned(low, middle), gap(1), nil}, {tuned(middle, low), gap(2), [][]int{{0, 1}}}, {tuned(low, 14350), gap(2), nil}, {tuned(14000, 14350), gap(2), nil}, {tuned(14350, 21000), gap(2), [][]int{{0, 1}}}, {tuned(high, middle), gap(2), [][]int{{0, 1}}},
		{tuned(low, outside), gap(2), nil}, {tuned(outside, low), gap(2), nil}, {tuned(outside, outside), gap(2), nil}, {tuned(14351, low), gap(2), nil}, {tuned(low, outside, middle), gap(3), [][]int{{0, 2}}}, {tuned(low, outside, middle), gap(2), nil}, {tuned(low, outside, low), gap(3), nil}, {tuned(low, outside, outside, middle, outside, high), gap(4), [][]int{{0, 3}, {3, 5}}},
		{shared, gap(0), nil}, {shared, gap(1), [][]int{{1, 2}}},
		{struck(tuned(low, middle), 0), gap(3), nil}, {struck(tuned(low, middle), 1), gap(3), nil}, {struck(tuned(low, middle, high), 1), gap(3), [][]int{{0, 2}}}, {struck(tuned(low, middle, high), 1), gap(2), nil}, {struck(tuned(low, middle, low), 1), gap(3), nil}, {struck(tuned(low, low, middle), 1), gap(3), [][]int{{0, 2}}},
		{tuned(low, middle, low, middle), gap(20000), [][]int{{0, 1}, {1, 2}, {2, 3}}}, {tuned(), gap(3), nil}, {tuned(low), gap(3), nil},
	} {
		l, e := conduct.Signals(x.c, x.k, 0)
		var want []api.Finding
		for _, lines := range x.want {
			want = append(want, api.Finding{Kind: api.BreachSignals, Lines: lines})
		}
		if !sameFindings(l, want) || e != api.OK {
			t.Error(i, l, e, "want", want)
		}
		n, e := conduct.Fewest(x.c, x.k, api.BreachSignals, 0)
		if len(want) == 0 && (n != 0 || e != api.ErrNone) || len(want) > 0 && (n != 2 || e != api.OK) {
			t.Error(i, n, e)
		}
	}
}

// indices returns the numbers from 0 to n - 1.
func indices(n int) []int {
	var l []int
	for i := range n {
		l = append(l, i)
	}
	return l
}

// N5: spans that are exactly Hour, and one less; Changes of 0 and of MaxLines; exactly Changes + 2 lines; several least proofs.
func TestChanges(t *testing.T) {
	const none = api.ErrNone
	twice := tuned(low, low, middle, middle, low, low)
	between := tuned(low, outside, middle, outside, low)
	away := tuned(outside, low, outside, middle, outside)
	gone := struck(tuned(low, middle, low, middle), 1)
	whole := tuned(slices.Repeat([]int{low, middle}, 200)...)
	hold(t, api.BreachChanges, []trial{
		{example(), hour(8), []int{0, 1, 2, 3}, 0}, {example(), hour(7), nil, none}, {example(), changes(3, 45), indices(5), 0}, {example(), changes(3, 44), nil, none}, {example(), changes(4, 20000), nil, none},
		{example(), changes(1, 7), []int{0, 1, 2}, 0}, {example(), changes(1, 6), []int{0, 1, 2}, 0}, {example(), changes(1, 5), nil, none}, {example(), changes(0, 3), []int{0, 1}, 0}, {example(), changes(0, 2), nil, none}, {example(), changes(0, 1), nil, none}, {example(), changes(0, 20000), []int{0, 1}, 0},
		{tuned(low, middle), changes(0, 2), []int{0, 1}, 0}, {tuned(low, middle), changes(0, 1), nil, none}, {tuned(low, middle), changes(1, 100), nil, none}, {tuned(low), changes(0, 100), nil, none}, {tuned(), changes(0, 100), nil, none}, {tuned(low, low, 14350), changes(0, 100), nil, none},
		// A list begins with the first line that can, and each next line is the first one on another band.
		{twice, changes(1, 5), []int{0, 2, 4}, 0}, {twice, changes(1, 4), []int{1, 2, 4}, 0}, {twice, changes(1, 3), nil, none}, {twice, changes(0, 3), []int{0, 2}, 0}, {twice, changes(0, 2), []int{1, 2}, 0},
		{tuned(low, low, low, middle, high, middle, low), changes(2, 4), []int{2, 3, 4, 5}, 0}, {tuned(low, middle, low, middle, low), changes(2, 5), indices(4), 0}, {tuned(low, middle, high, low), changes(2, 4), indices(4), 0}, {tuned(low, middle, middle, high), changes(2, 100), nil, none},
		// Lines on no band change nothing.
		{between, changes(1, 5), []int{0, 2, 4}, 0}, {between, changes(1, 4), nil, none}, {between, changes(2, 100), nil, none}, {tuned(low, outside, low, outside, low), changes(0, 100), nil, none}, {away, changes(0, 3), []int{1, 3}, 0}, {away, changes(1, 100), nil, none}, {tuned(outside, outside), changes(0, 100), nil, none},
		// Struck lines are not there.
		{gone, changes(1, 100), nil, none}, {gone, changes(0, 3), []int{2, 3}, 0}, {gone, changes(0, 4), []int{0, 3}, 0},
		{whole, changes(398, 400), indices(400), 0}, {whole, changes(398, 399), nil, none}, {whole, changes(399, 20000), nil, none}, {whole, changes(400, 20000), nil, none}, {whole, changes(0, 2), []int{0, 1}, 0}, {whole, changes(100, 102), indices(102), 0}, {whole, changes(100, 101), nil, none},
	})
}

// N6: lines between which there may be a rest prove nothing.
func TestOnAir(t *testing.T) {
	for i, x := range []struct {
		c     api.Case
		rest  int
		lines []int
		want  int
	}{
		{example(), 30, nil, 0}, {example(), 30, []int{0}, 0}, {example(), 30, []int{5}, 0}, {example(), 30, []int{0, 1}, 0}, {example(), 30, []int{0, 3}, 1}, {example(), 8, []int{0, 3}, 1}, {example(), 7, []int{0, 3}, 0}, {example(), 30, []int{0, 5}, 0}, {example(), 50, []int{0, 5}, 39}, {example(), 49, []int{0, 5}, 0}, {example(), 20000, indices(6), 39}, {example(), 20000, []int{0, 3, 5}, 39},
		{shown(0, 5, 9), 20000, []int{0, 1, 2}, 9}, {shown(0, 5, 9), 5, []int{0, 1, 2}, 4}, {shown(0, 5, 9), 6, []int{0, 1, 2}, 9}, {shown(0, 5, 9), 4, []int{0, 1, 2}, 0}, {shown(0, 5, 9), 9, []int{0, 2}, 0}, {shown(0, 5, 9), 10, []int{0, 2}, 9}, {shown(0, 0), 1, []int{0, 1}, 0},
		{struck(shown(0, 5, 9), 1), 10, []int{0, 2}, 9}, {tuned(outside, outside), 2, []int{0, 1}, 1},
	} {
		if n, e := conduct.OnAir(x.c, onAir(5, x.rest), 0, x.lines); n != x.want || e != api.OK {
			t.Error(i, n, e, "want", x.want)
		}
	}
	for i, lines := range [][]int{{1, 0}, {0, 0}, {2}, {0, 2, 4}, {-1}, {0, 6}, {6}, {0, -1}, {0, 1<<63 - 1}, {-1 << 63, 0}, slices.Repeat([]int{0}, 1000), indices(7)} {
		if n, e := conduct.OnAir(struck(example(), 2), ruling(), 0, lines); n != 0 || e != api.ErrArg {
			t.Error(i, lines, n, e)
		}
	}
}

// loose returns a case of lines two minutes apart, each step of which may be wrong by a minute, but all of them together by no more than two.
func loose() api.Case {
	c := shown(0, 2, 4, 6, 8, 10)
	c.Contest.Slip = 1
	return c
}

// every returns the numbers from a first one to a last one that are two apart.
func every(first, last int) []int {
	var l []int
	for i := first; i <= last; i += 2 {
		l = append(l, i)
	}
	return l
}

// N7: Minutes of 0; sums that are exactly Minutes, and one more; lists in which fewer lines prove more than all lines do.
func TestMinutes(t *testing.T) {
	const none = api.ErrNone
	exact, sessions := shown(0, 5, 9, 20, 21), shown(0, 3, 6, 30, 33, 36)
	apart := tied()
	apart.Forbid = []api.Duo{duo(0, 0, 1, 0)}
	steps := shown(indices(400)...)
	hold(t, api.BreachMinutes, []trial{
		{example(), onAir(5, 30), nil, none}, {example(), onAir(4, 30), nil, none}, {example(), onAir(3, 30), []int{0, 2, 4, 5}, 0}, {example(), onAir(2, 30), []int{4, 5}, 0}, {example(), onAir(1, 30), []int{4, 5}, 0}, {example(), onAir(0, 30), []int{0, 2}, 0},
		{exact, onAir(20, 100), []int{0, 4}, 0}, {exact, onAir(21, 100), nil, none}, {exact, onAir(0, 100), []int{0, 1}, 0}, {exact, onAir(4, 100), []int{0, 1}, 0}, {exact, onAir(5, 100), []int{0, 2}, 0}, {exact, onAir(20, 22), []int{0, 4}, 0}, {exact, onAir(20, 21), []int{0, 1, 4}, 0}, {exact, onAir(20, 12), []int{0, 2, 3, 4}, 0}, {exact, onAir(20, 11), nil, none}, {exact, onAir(9, 11), []int{0, 2, 3, 4}, 0}, {exact, onAir(0, 1), nil, none}, {exact, onAir(0, 2), []int{3, 4}, 0}, {exact, onAir(0, 5), []int{1, 2}, 0},
		// Between sessions there is a rest.
		{sessions, onAir(5, 20), []int{0, 2}, 0}, {sessions, onAir(6, 20), []int{0, 1, 3, 5}, 0}, {sessions, onAir(9, 20), []int{0, 2, 3, 5}, 0}, {sessions, onAir(11, 20), []int{0, 2, 3, 5}, 0}, {sessions, onAir(12, 20), nil, none}, {sessions, onAir(12, 25), []int{2, 3}, 0}, {sessions, onAir(35, 25), []int{0, 2, 3, 5}, 0}, {sessions, onAir(36, 40), nil, none},
		// All lines of this one prove 5 minutes.
		{loose(), onAir(7, 30), []int{0, 5}, 0}, {loose(), onAir(8, 30), nil, none}, {loose(), onAir(4, 30), []int{0, 4}, 0}, {loose(), onAir(4, 9), []int{0, 1, 4}, 0}, {loose(), onAir(5, 9), []int{0, 2, 5}, 0}, {loose(), onAir(6, 9), nil, none}, {loose(), onAir(4, 4), indices(6), 0}, {loose(), onAir(5, 4), nil, none}, {loose(), onAir(4, 3), nil, none}, {loose(), onAir(4, 7), []int{0, 1, 3, 5}, 0}, {loose(), onAir(5, 7), nil, none},
		{tied(), onAir(25, 40), []int{0, 3}, 0}, {tied(), onAir(26, 40), nil, none}, {apart, onAir(25, 40), nil, none}, {tied(), onAir(25, 35), []int{0, 3}, 0}, {apart, onAir(23, 36), []int{0, 1, 3}, 0}, {apart, onAir(23, 37), []int{0, 3}, 0},
		{struck(exact, 0), onAir(15, 100), []int{1, 4}, 0}, {struck(exact, 0), onAir(16, 100), nil, none}, {struck(exact, 1, 2, 3), onAir(20, 100), []int{0, 4}, 0}, {struck(exact, 0, 1, 2, 3), onAir(0, 100), nil, none}, {struck(exact, 0, 1, 2, 3, 4), onAir(0, 100), nil, none}, {shown(), onAir(0, 100), nil, none}, {shown(7), onAir(0, 100), nil, none}, {shown(7, 7), onAir(0, 100), nil, none}, {shown(7, 7, 8), onAir(0, 100), []int{0, 2}, 0},
		{steps, onAir(398, 2), indices(400), 0}, {steps, onAir(399, 2), nil, none}, {steps, onAir(397, 2), indices(399), 0}, {steps, onAir(397, 3), every(0, 398), 0}, {steps, onAir(398, 3), append([]int{0}, every(1, 399)...), 0}, {steps, onAir(399, 3), nil, none}, {steps, onAir(0, 1), nil, none}, {steps, onAir(398, 20000), []int{0, 399}, 0}, {steps, onAir(197, 20000), []int{0, 198}, 0}, {steps, onAir(20000, 20000), nil, none},
	})
}

// stated returns a case of three logs, in which the lines of A1A have the statuses that letters tell: credited, busted, open, refused, unchecked, or struck.
func stated(t *testing.T, letters string) api.Case {
	t.Helper()
	var a, k []api.Line
	var gone []int
	for i, letter := range letters {
		minute, serial := 100*i, 100+i
		mine := with("K1K", minute, serial, len(k)+101)
		theirs := with("A1A", minute, len(k)+101, serial)
		switch letter {
		case 'C':
			k = append(k, theirs)
		case 'B':
			mine.Got.Serial += 88
			k = append(k, theirs)
		case 'O':
			k = append(k, theirs, theirs)
		case 'R':
			mine.Call = "B1B"
		case 'U':
			mine.Call = "Z9Z"
		case 'S':
			gone = append(gone, i)
		}
		a = append(a, mine)
	}
	c := struck(caseOf(log("A1A", a...), log("B1B"), log("K1K", k...)), gone...)
	lines := truthOf(t, c).statuses[0]
	for i, letter := range letters {
		if "?CBORUS"[lines[i]] != byte(letter) {
			t.Fatal(letters, lines)
		}
	}
	return c
}

// N8: Share of 0 and of 100; a share that is exactly Share; statuses that are not Refused; struck lines, which do not count.
func TestShare(t *testing.T) {
	const none = api.ErrNone
	many := stated(t, "RRRRRRRRRUU")
	hold(t, api.BreachShare, []trial{
		{stated(t, "RRUU"), share(50), nil, none}, {stated(t, "RRUU"), share(49), []int{0, 1}, 0}, {stated(t, "RRUU"), share(25), []int{0, 1}, 0}, {stated(t, "RRUU"), share(24), []int{0}, 0}, {stated(t, "URUR"), share(49), []int{1, 3}, 0}, {stated(t, "URUR"), share(24), []int{1}, 0}, {stated(t, "RRRU"), share(50), indices(3), 0}, {stated(t, "RRRU"), share(75), nil, none}, {stated(t, "RRRU"), share(74), indices(3), 0},
		{stated(t, "UUUR"), share(0), []int{3}, 0}, {stated(t, "UUUU"), share(0), nil, none}, {stated(t, "RRRR"), share(0), []int{0}, 0}, {stated(t, "RRRR"), share(100), nil, none}, {stated(t, "RRRR"), share(99), indices(4), 0}, {stated(t, "R"), share(99), []int{0}, 0}, {stated(t, "R"), share(100), nil, none}, {stated(t, ""), share(0), nil, none}, {stated(t, ""), share(100), nil, none},
		{stated(t, "CBOU"), share(0), nil, none}, {stated(t, "CBOUR"), share(19), []int{4}, 0}, {stated(t, "CBOUR"), share(20), nil, none}, {stated(t, "RCRBROR"), share(50), []int{0, 2, 4, 6}, 0}, {stated(t, "RCRBROR"), share(57), []int{0, 2, 4, 6}, 0}, {stated(t, "RCRBROR"), share(58), nil, none},
		{stated(t, "RUS"), share(49), []int{0}, 0}, {stated(t, "RUU"), share(49), nil, none}, {stated(t, "SRU"), share(49), []int{1}, 0}, {stated(t, "SRU"), share(50), nil, none}, {stated(t, "SSS"), share(0), nil, none}, {stated(t, "SSR"), share(99), []int{2}, 0},
		{many, share(81), indices(9), 0}, {many, share(82), nil, none}, {many, share(33), indices(4), 0}, {many, share(36), indices(4), 0}, {many, share(37), indices(5), 0}, {many, share(9), indices(1), 0}, {many, share(10), indices(2), 0},
	})
}

// N9: serial numbers that are equal, that fall, and layouts without them.
func TestSerial(t *testing.T) {
	const none = api.ErrNone
	silent := numbered(0, 0, 0)
	silent.Contest.Layout = api.Layout{}
	for i := range silent.Logs[0].Lines {
		silent.Logs[0].Lines[i].Got = api.Exchange{}
	}
	hold(t, api.BreachSerial, []trial{
		{example(), ruling(), []int{2, 3}, 0}, {numbered(), ruling(), nil, none}, {numbered(7), ruling(), nil, none}, {numbered(1, 2, 3), ruling(), nil, none}, {numbered(1, 5, 99999), ruling(), nil, none}, {numbered(1, 2, 2), ruling(), []int{1, 2}, 0}, {numbered(1, 1), ruling(), []int{0, 1}, 0}, {numbered(2, 1), ruling(), []int{0, 1}, 0}, {numbered(1, 3, 2), ruling(), []int{1, 2}, 0}, {numbered(5, 4, 3), ruling(), []int{0, 1}, 0},
		{numbered(3, 5, 1), ruling(), []int{0, 2}, 0}, {numbered(3, 5, 4, 3), ruling(), []int{0, 3}, 0}, {numbered(1, 5, 3, 4, 2), ruling(), []int{1, 2}, 0}, {numbered(2, 3, 4, 5, 1), ruling(), []int{0, 4}, 0},
		{struck(numbered(5, 1, 9), 1), ruling(), nil, none}, {struck(numbered(5, 1, 9), 0), ruling(), nil, none}, {struck(numbered(3, 1, 2), 1), ruling(), []int{0, 2}, 0}, {struck(numbered(3, 1, 2), 0), ruling(), nil, none}, {struck(numbered(1, 1, 1), 0, 1, 2), ruling(), nil, none},
		{silent, ruling(), nil, none},
	})
}

// N10: each category, and a power that is exactly the number.
func TestPower(t *testing.T) {
	k := ruled(func(k *api.Conduct) { k.Power = []int{100, 5, 9999, 1, 1500, 400, 50, 10, 9998} })
	var trials []trial
	for category := 1; category <= 9; category++ {
		for _, power := range []int{1, 2, 5, 6, 10, 11, 50, 51, 100, 101, 400, 401, 1500, 1501, 9998, 9999} {
			c := example()
			c.Logs[0].Category, c.Logs[0].Power = category, power
			e := api.ErrNone
			if power > k.Power[category-1] {
				e = api.OK
			}
			trials = append(trials, trial{c, k, nil, e})
		}
	}
	gone := struck(example(), indices(6)...)
	hold(t, api.BreachPower, append(trials, trial{gone, ruling(), nil, 0}))
}
