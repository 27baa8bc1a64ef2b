package copying_test

import (
	"math/rand/v2"
	"strconv"
	"strings"
	"testing"

	"pileup/api"
	"pileup/copying"
)

// shortened returns decimal digits as they are sent in Morse.
func shortened(s string) string { return strings.NewReplacer("0", "T", "1", "A", "9", "N").Replace(s) }

// C13: the examples, both ends of the range, and the errors in their order.
func TestDigits(t *testing.T) {
	for n, want := range map[int]string{0: "T", 1: "A", 9: "N", 10: "AT", 599: "5NN", 100: "ATT", 19: "AN", 23456: "23456", 78: "78", 99999: "NNNNN", 10000: "ATTTT", 90109: "NTATN"} {
		if s, e := copying.Digits(api.Morse, n); s != want || e != api.OK {
			t.Error(n, s, e)
		}
		for _, mode := range []int{api.Voice, api.Data} {
			if s, e := copying.Digits(mode, n); s != strconv.Itoa(n) || e != api.OK {
				t.Error(mode, n, s, e)
			}
		}
	}
	for _, n := range []int{-1, 100000, most, least} {
		for _, mode := range modes {
			if s, e := copying.Digits(mode, n); s != "" || e != api.ErrArg {
				t.Error(mode, n, s, e)
			}
		}
		for _, mode := range badModes() {
			if s, e := copying.Digits(mode, n); s != "" || e != api.ErrMode {
				t.Error(mode, n, s, e)
			}
		}
	}
	if s, e := copying.Digits(0, 5); s != "" || e != api.ErrMode {
		t.Error(s, e)
	}
}

// P4.6: all numbers in all modes, as they are sent, in full, and with zeros ahead.
func TestAllNumbers(t *testing.T) {
	for n := range api.MaxSerial + 1 {
		full := strconv.Itoa(n)
		for _, mode := range modes {
			s, e := copying.Digits(mode, n)
			want := full
			if mode == api.Morse {
				want = shortened(full)
			}
			back, f := copying.Number(mode, s)
			if s != want || back != n || e != api.OK || f != api.OK {
				t.Fatal(mode, n, s, back, e, f)
			}
		}
	}
	for n := 0; n <= api.MaxSerial; n += 7 {
		full := strconv.Itoa(n)
		padded := strings.Repeat("0", 5-len(full)) + full
		for _, mode := range modes {
			if back, e := copying.Number(mode, padded); back != n || e != api.OK {
				t.Fatal(mode, padded, back, e)
			}
		}
		if back, e := copying.Number(api.Morse, shortened(padded)); back != n || e != api.OK {
			t.Fatal(padded, back, e)
		}
	}
}

// C14: short figures in Morse alone, also among digits; leading zeros; texts that stand for no number.
func TestNumber(t *testing.T) {
	is := func(mode int, s string, want int, e api.Errno) {
		t.Helper()
		if n, f := copying.Number(mode, s); n != want || f != e {
			t.Errorf("%d %q %d %v", mode, s, n, f)
		}
	}
	for s, want := range map[string]int{"5NN": 599, "599": 599, "59N": 599, "T": 0, "0": 0, "TTTTT": 0, "00000": 0, "0T0T1": 1, "A": 1, "N": 9, "TAN": 19, "ATAN9": 10199, "NNNNN": 99999, "99999": 99999, "0A1": 11} {
		is(api.Morse, s, want, api.OK)
		if strings.ContainsAny(s, "TAN") {
			is(api.Voice, s, 0, api.ErrArg)
			is(api.Data, s, 0, api.ErrArg)
		} else {
			is(api.Voice, s, want, api.OK)
			is(api.Data, s, want, api.OK)
		}
	}
	for _, mode := range modes {
		is(mode, "007", 7, api.OK)
		is(mode, "00000", 0, api.OK)
		for _, s := range append(badBytes(), "", "000000", "100000", "123456", "-1", "+1", "1 ", " 1", "1.5", "0x1", "1e3", "1_0", "B", "O", "5N/", "t", "tan", "5nn", "1Ä", "١", "1\xff", "K1AA", longest(), tooLong(), strings.Repeat("k", 1000), strings.Repeat("0", 65)) {
			is(mode, s, 0, api.ErrArg)
		}
	}
	for _, mode := range badModes() {
		for _, s := range []string{"1", "", "k", tooLong()} {
			is(mode, s, 0, api.ErrMode)
		}
	}
}

// C15: the examples, both ends of the range, and the errors in their order.
func TestCopyNumber(t *testing.T) {
	for _, x := range []struct{ mode, sent, heard, want int }{
		{api.Morse, 10, 19, 1}, {api.Voice, 10, 19, 3}, {api.Data, 10, 19, 2},
		{api.Morse, 0, 99999, 13}, {api.Morse, 99999, 0, 13}, {api.Morse, 1, 10, 3}, {api.Voice, 10, 1, 2}, {api.Voice, 1, 10, 3}, {api.Data, 1, 10, 2},
		{api.Voice, 5, 9, 1}, {api.Voice, 1, 4, 1}, {api.Morse, 599, 599, 0}, {api.Data, 123, 132, 4},
	} {
		if n, e := copying.CopyNumber(x.mode, x.sent, x.heard); n != x.want || e != api.OK {
			t.Error(x, n, e)
		}
	}
	for _, n := range []int{-1, 100000, most, least} {
		for _, x := range [][2]int{{n, 5}, {5, n}, {n, n}} {
			for _, mode := range modes {
				if cost, e := copying.CopyNumber(mode, x[0], x[1]); cost != 0 || e != api.ErrArg {
					t.Error(mode, x, cost, e)
				}
			}
			for _, mode := range badModes() {
				if cost, e := copying.CopyNumber(mode, x[0], x[1]); cost != 0 || e != api.ErrMode {
					t.Error(mode, x, cost, e)
				}
			}
		}
	}
	if cost, e := copying.CopyNumber(7, 5, 5); cost != 0 || e != api.ErrMode {
		t.Error(cost, e)
	}
}

// P4.6: numbers heard for themselves and for others.
func TestHeardNumbers(t *testing.T) {
	r := rand.New(rand.NewPCG(4, 6))
	for range 4000 {
		mode := modes[r.IntN(3)]
		sent, heard := r.IntN(1+r.IntN(api.MaxSerial+1)), r.IntN(1+r.IntN(api.MaxSerial+1))
		if n, e := copying.CopyNumber(mode, sent, sent); n != 0 || e != api.OK {
			t.Fatal(mode, sent, n, e)
		}
		s, _ := copying.Digits(mode, sent)
		h, _ := copying.Digits(mode, heard)
		if n, e := copying.CopyNumber(mode, sent, heard); n != costOf(t, mode, s, h) || (n == 0) != (sent == heard) || e != api.OK {
			t.Fatal(mode, sent, heard, n, e)
		}
	}
}

// layouts returns all layouts.
func layouts() []api.Layout {
	var l []api.Layout
	for i := range 8 {
		l = append(l, api.Layout{Report: i&1 > 0, Serial: i&2 > 0, Zone: i&4 > 0})
	}
	return l
}

// exchangeOf returns numbers as far as a layout has them.
func exchangeOf(o api.Layout, report, serial, zone int) api.Exchange {
	var x api.Exchange
	if o.Report {
		x.Report = report
	}
	if o.Serial {
		x.Serial = serial
	}
	if o.Zone {
		x.Zone = zone
	}
	return x
}

// C16: the sum of the parts that each layout has.
func TestCopyExchange(t *testing.T) {
	for _, o := range layouts() {
		for _, mode := range modes {
			for _, x := range [][2][3]int{{{599, 10, 14}, {599, 19, 15}}, {{1, 1, 1}, {599, 99999, 99}}, {{599, 99999, 99}, {1, 1, 1}}, {{59, 7, 5}, {59, 7, 5}}} {
				sent, got := exchangeOf(o, x[0][0], x[0][1], x[0][2]), exchangeOf(o, x[1][0], x[1][1], x[1][2])
				want := 0
				for i, has := range []bool{o.Report, o.Serial, o.Zone} {
					n, e := copying.CopyNumber(mode, x[0][i], x[1][i])
					if has && e == api.OK {
						want += n
					}
				}
				if n, e := copying.CopyExchange(o, mode, sent, got); n != want || e != api.OK || (n == 0) != (sent == got) {
					t.Error(o, mode, sent, got, n, e, "want", want)
				}
			}
		}
	}
	o := api.Layout{Report: true, Serial: true, Zone: true}
	if n, e := copying.CopyExchange(o, api.Morse, api.Exchange{Report: 599, Serial: 10, Zone: 14}, api.Exchange{Report: 599, Serial: 19, Zone: 15}); n != 2 || e != api.OK {
		t.Error(n, e)
	}
}

// badExchanges returns exchanges that are not valid for a layout, each with one part that is wrong.
func badExchanges(o api.Layout) []api.Exchange {
	var l []api.Exchange
	right := exchangeOf(o, 599, 3, 14)
	add := func(has bool, n int, set func(x *api.Exchange, n int)) {
		for _, bad := range []int{0, n + 1, -1, 1, n, most, least} {
			if inside := bad >= 1 && bad <= n; has == inside || !has && bad == 0 {
				continue
			}
			x := right
			set(&x, bad)
			l = append(l, x)
		}
	}
	add(o.Report, api.MaxReport, func(x *api.Exchange, n int) { x.Report = n })
	add(o.Serial, api.MaxSerial, func(x *api.Exchange, n int) { x.Serial = n })
	add(o.Zone, api.MaxZone, func(x *api.Exchange, n int) { x.Zone = n })
	return l
}

// C16, C17: exchanges that are not valid for each layout, and the errors in their order.
func TestBadExchanges(t *testing.T) {
	for _, o := range layouts() {
		right := exchangeOf(o, 599, 3, 14)
		is := func(mode int, call, heard string, sent, got api.Exchange, want api.Errno) {
			t.Helper()
			if n, e := copying.CopyLine(o, call, sent, api.Line{Mode: mode, Call: heard, Got: got}); n != 0 || e != want {
				t.Error(o, mode, call, heard, sent, got, n, e)
			}
		}
		for _, bad := range badExchanges(o) {
			for _, x := range [][2]api.Exchange{{bad, right}, {right, bad}, {bad, bad}} {
				for _, mode := range modes {
					if n, e := copying.CopyExchange(o, mode, x[0], x[1]); n != 0 || e != api.ErrArg {
						t.Error(o, mode, x, n, e)
					}
					is(mode, "K1AA", "K1AB", x[0], x[1], api.ErrArg)
					is(mode, "", "", x[0], x[1], api.ErrArg)
					is(mode, "k", "K1AB", x[0], x[1], api.ErrKey)
					is(mode, "k", tooLong(), x[0], x[1], api.ErrLimit)
				}
				for _, mode := range badModes() {
					if n, e := copying.CopyExchange(o, mode, x[0], x[1]); n != 0 || e != api.ErrMode {
						t.Error(o, mode, x, n, e)
					}
					is(mode, "k", tooLong(), x[0], x[1], api.ErrMode)
				}
			}
		}
		for _, mode := range badModes() {
			if n, e := copying.CopyExchange(o, mode, right, right); n != 0 || e != api.ErrMode {
				t.Error(o, mode, n, e)
			}
			is(mode, "K1AA", "K1AB", right, right, api.ErrMode)
		}
		is(api.Morse, tooLong(), "K1AB", right, right, api.ErrLimit)
		is(api.Morse, "K1AA", tooLong(), right, right, api.ErrLimit)
		is(api.Morse, "K1AA", "K1A-", right, right, api.ErrKey)
		is(api.Morse, "k1aa", "K1AA", right, right, api.ErrKey)
	}
}

// C17, P4.7: exact copies and others; a line's other fields do not matter.
func TestCopyLine(t *testing.T) {
	o := api.Layout{Report: true, Serial: true}
	sent := api.Exchange{Report: 599, Serial: 10}
	x := api.Line{Mode: api.Morse, Call: "K1AS", Got: api.Exchange{Report: 599, Serial: 19}}
	if n, e := copying.CopyLine(o, "K1AC", sent, x); n != 3 || e != api.OK {
		t.Error(n, e)
	}
	x.Num, x.Khz, x.Minute, x.Sent = -5, most, least, api.Exchange{Report: -1, Serial: most, Zone: 3}
	if n, e := copying.CopyLine(o, "K1AC", sent, x); n != 3 || e != api.OK {
		t.Error(n, e)
	}
	x.Mode = api.Data
	if n, e := copying.CopyLine(o, "K1AC", sent, x); n != 4 || e != api.OK {
		t.Error(n, e)
	}
	if n, e := copying.CopyLine(api.Layout{}, "", api.Exchange{}, api.Line{Mode: api.Voice}); n != 0 || e != api.OK {
		t.Error(n, e)
	}
	if n, e := copying.CopyLine(api.Layout{}, "NOT/A/CALL", api.Exchange{}, api.Line{Mode: api.Voice, Call: longest()}); n != costOf(t, api.Voice, "NOT/A/CALL", longest()) || e != api.OK {
		t.Error(n, e)
	}
}

// P4.7: random lines in all layouts.
func TestCopiedLines(t *testing.T) {
	r := rand.New(rand.NewPCG(4, 7))
	for range 2000 {
		o := layouts()[r.IntN(8)]
		call := anyText(r, alphabet, 8)
		sent := exchangeOf(o, 1+r.IntN(599), 1+r.IntN(99999), 1+r.IntN(99))
		exact := api.Line{Num: r.IntN(9), Khz: r.IntN(9), Mode: modes[r.IntN(3)], Minute: r.IntN(9), Call: call, Got: sent}
		if n, e := copying.CopyLine(o, call, sent, exact); n != 0 || e != api.OK {
			t.Fatal(o, call, exact, n, e)
		}
		x := exact
		x.Call = near(r, call, r.IntN(3))
		if r.IntN(2) == 0 {
			x.Got = exchangeOf(o, 1+r.IntN(599), 1+r.IntN(99999), 1+r.IntN(99))
		}
		parts, f := copying.CopyExchange(o, x.Mode, sent, x.Got)
		n, e := copying.CopyLine(o, call, sent, x)
		if n != costOf(t, x.Mode, call, x.Call)+parts || (n > 0) != (x.Call != call || x.Got != sent) || e != api.OK || f != api.OK {
			t.Fatal(o, call, sent, x, n, e)
		}
	}
}
