package logs_test

import (
	"math/rand/v2"
	"strings"
	"testing"

	"pileup/api"
	"pileup/logs"
)

// layouts returns all layouts.
func layouts() []api.Layout {
	var l []api.Layout
	for i := range 8 {
		l = append(l, api.Layout{Report: i&1 > 0, Serial: i&2 > 0, Zone: i&4 > 0})
	}
	return l
}

// anyExchange returns an exchange that is valid for a layout.
func anyExchange(r *rand.Rand, o api.Layout) api.Exchange {
	var x api.Exchange
	if o.Report {
		x.Report = 1 + r.IntN(599)
	}
	if o.Serial {
		x.Serial = 1 + r.IntN(99999)>>r.IntN(17)
	}
	if o.Zone {
		x.Zone = 1 + r.IntN(99)
	}
	return x
}

// anyLine returns a line that is valid for a layout.
func anyLine(r *rand.Rand, o api.Layout, num, minute int) api.Line {
	const letters = "ABCDEFGHIJKLMNOPQRSTUVWXYZ0123456789/"
	call := ""
	for range 1 + r.IntN(16) {
		call += string(letters[r.IntN(len(letters))])
	}
	return api.Line{Num: num, Khz: 1 + r.IntN(10000000)>>r.IntN(24), Mode: 1 + r.IntN(3), Minute: minute, Call: call,
		Sent: anyExchange(r, o), Got: anyExchange(r, o)}
}

// anyLog returns a log that is valid for a layout.
func anyLog(r *rand.Rand, o api.Layout, lines int) api.Log {
	calls := []string{"DL1XY", "F/G3ABC/P", "K1AA", "3DA0RS/4"}
	l := api.Log{Call: calls[r.IntN(len(calls))], Category: 1 + r.IntN(9), Power: 1 + r.IntN(9999), Claimed: r.IntN(1000001)}
	for n := r.IntN(50); len(l.Jumps) < r.IntN(17); n += r.IntN(500) {
		n++
		l.Jumps = append(l.Jumps, n)
	}
	num, minute := 0, 0
	for range lines {
		num, minute = num+1+r.IntN(9), minute+r.IntN(9)
		l.Lines = append(l.Lines, anyLine(r, o, num, minute))
	}
	return l
}

// L4, L5: texts of lines, both ways.
func TestPrintLine(t *testing.T) {
	full := api.Exchange{Report: 599, Serial: 99999, Zone: 99}
	for _, x := range []struct {
		o    api.Layout
		x    api.Line
		want string
	}{
		{some, exampleLine(), "QSO 7 14025 M 1 0115 K1ABC > 599 012 < 599 003"},
		{api.Layout{Report: true, Serial: true},
			api.Line{Num: 1, Khz: 14025, Mode: api.Morse, Call: "K1AA", Sent: api.Exchange{Report: 599, Serial: 1}, Got: api.Exchange{Report: 599, Serial: 2}},
			"QSO 1 14025 M 1 0000 K1AA > 599 001 < 599 002"},
		{none, api.Line{Num: 1, Khz: 1, Mode: api.Voice, Minute: 1440, Call: "/"}, "QSO 1 1 V 2 0000 / > - < -"},
		{every, api.Line{Num: 65535, Khz: 10000000, Mode: api.Data, Minute: 20000, Call: "ABCDEFGHIJKLMNOP", Sent: full, Got: full},
			"QSO 65535 10000000 D 14 2120 ABCDEFGHIJKLMNOP > 599 99999 99 < 599 99999 99"},
		{api.Layout{Zone: true}, api.Line{Num: 10, Khz: 100, Mode: api.Data, Minute: 600, Call: "QSO", Sent: api.Exchange{Zone: 5}, Got: api.Exchange{Zone: 14}},
			"QSO 10 100 D 1 1000 QSO > 05 < 14"},
	} {
		if s, e := logs.PrintLine(x.o, x.x); s != x.want || e != api.OK {
			t.Error(x.want, s, e)
		}
		if y, e := logs.ParseLine(x.o, x.want); y != x.x || e != api.OK {
			t.Error(x.want, y, e)
		}
	}
	for _, x := range badLines() {
		if s, e := logs.PrintLine(some, x); s != "" || e != api.ErrArg {
			t.Error(x, s, e)
		}
	}
	if s, e := logs.PrintLine(none, exampleLine()); s != "" || e != api.ErrArg {
		t.Error(s, e)
	}
}

// L5: texts that no line has.
func TestParseLineErrors(t *testing.T) {
	for _, s := range []string{
		"", " ", "QSO", "END", "QSO 7", "QSO 7 14025 M 1 0115 K1ABC", "QSO 7 14025 M 1 0115 K1ABC > 599 012", "QSO 7 14025 M 1 0115 K1ABC > 599 012 <",
		"QSO 7 14025 M 1 0115 K1ABC > 599 012 < ", "QSO 7 14025 M 1 0115 K1ABC > < 599 003", "QSO 7 14025 M 1 0115 K1ABC < 599 012 > 599 003",
		"qso 7 14025 M 1 0115 K1ABC > 599 012 < 599 003", "QSO 7 14025 m 1 0115 K1ABC > 599 012 < 599 003", "QSO 7 14025 M 1 0115 k1abc > 599 012 < 599 003",
		" QSO 7 14025 M 1 0115 K1ABC > 599 012 < 599 003", "QSO 7 14025 M 1 0115 K1ABC > 599 012 < 599 003 ", "QSO  7 14025 M 1 0115 K1ABC > 599 012 < 599 003",
		"QSO 7 14025 M 1  0115 K1ABC > 599 012 < 599 003", "QSO 7 14025 M 1 0115 K1ABC  > 599 012 < 599 003", "QSO 7 14025 M 1 0115 K1ABC >  599 012 < 599 003",
		"QSO 7 14025 M 1 0115 K1ABC > 599  012 < 599 003", "QSO 7 14025 M 1 0115 K1ABC > 599 012  < 599 003", "QSO 7 14025 M 1 0115 K1ABC > 599 012 <  599 003",
		"QSO\t7 14025 M 1 0115 K1ABC > 599 012 < 599 003", "QSO 7 14025 M 1 0115 K1ABC > 599 012 < 599 003\n", "QSO 7 14025 M 1 0115 K1ABC > 599 012 < 599 003\r",
		"QSO 07 14025 M 1 0115 K1ABC > 599 012 < 599 003", "QSO +7 14025 M 1 0115 K1ABC > 599 012 < 599 003", "QSO -7 14025 M 1 0115 K1ABC > 599 012 < 599 003",
		"QSO 0 14025 M 1 0115 K1ABC > 599 012 < 599 003", "QSO 65536 14025 M 1 0115 K1ABC > 599 012 < 599 003", "QSO 18446744073709551623 14025 M 1 0115 K1ABC > 599 012 < 599 003",
		"QSO x 14025 M 1 0115 K1ABC > 599 012 < 599 003", "QSO  14025 M 1 0115 K1ABC > 599 012 < 599 003", "QSO 7.0 14025 M 1 0115 K1ABC > 599 012 < 599 003",
		"QSO 7 014025 M 1 0115 K1ABC > 599 012 < 599 003", "QSO 7 0 M 1 0115 K1ABC > 599 012 < 599 003", "QSO 7 10000001 M 1 0115 K1ABC > 599 012 < 599 003", "QSO 7 1_4 M 1 0115 K1ABC > 599 012 < 599 003",
		"QSO 7 14025 X 1 0115 K1ABC > 599 012 < 599 003", "QSO 7 14025 MV 1 0115 K1ABC > 599 012 < 599 003", "QSO 7 14025 MVD 1 0115 K1ABC > 599 012 < 599 003", "QSO 7 14025 1 1 0115 K1ABC > 599 012 < 599 003",
		"QSO 7 14025  1 0115 K1ABC > 599 012 < 599 003", "QSO 7 14025 1 0115 K1ABC > 599 012 < 599 003", "QSO 7 14025 M 75 K1ABC > 599 012 < 599 003",
		"QSO 7 14025 M 1 0175 K1ABC > 599 012 < 599 003", "QSO 7 14025 M 01 0115 K1ABC > 599 012 < 599 003", "QSO 7 14025 M 0 0115 K1ABC > 599 012 < 599 003", "QSO 7 14025 M 14 2121 K1ABC > 599 012 < 599 003",
		"QSO 7 14025 M 1 0115 > 599 012 < 599 003", "QSO 7 14025 M 1 0115  > 599 012 < 599 003", "QSO 7 14025 M 1 0115 K1 ABC > 599 012 < 599 003", "QSO 7 14025 M 1 0115 K1-ABC > 599 012 < 599 003",
		"QSO 7 14025 M 1 0115 ABCDEFGHIJKLMNOPQ > 599 012 < 599 003", "QSO 7 14025 M 1 0115 > > 599 012 < 599 003", "QSO 7 14025 M 1 0115 K1\xff > 599 012 < 599 003",
		"QSO 7 14025 M 1 0115 K1ABC > 599 12 < 599 003", "QSO 7 14025 M 1 0115 K1ABC > 599 012 < 599 3", "QSO 7 14025 M 1 0115 K1ABC > 599 < 599 003", "QSO 7 14025 M 1 0115 K1ABC > 599 012 < 599",
		"QSO 7 14025 M 1 0115 K1ABC > 599 012 05 < 599 003", "QSO 7 14025 M 1 0115 K1ABC > 599 012 < 599 003 05", "QSO 7 14025 M 1 0115 K1ABC > - < -",
		"QSO 7 14025 M 1 0115 K1ABC > 599 012 < 599 003 < 599 003", "QSO 7 14025 M 1 0115 K1ABC > 599 012 > 599 012 < 599 003", "QSO 7 14025 M 1 0115 K1ABC > 600 012 < 599 003",
		"QSX 7 14025 M 1 0115 K1ABC > 599 012 < 599 003", " 7 14025 M 1 0115 K1ABC > 599 012 < 599 003", "7 14025 M 1 0115 K1ABC > 599 012 < 599 003",
		"QSO 7 14025 M 1 0115 K1ABC 599 012 < 599 003", "QSO 7 14025 M 1 0115 K1ABC > 599 012 599 003", strings.Repeat("QSO ", 1000), strings.Repeat("9", 1000),
	} {
		if x, e := logs.ParseLine(some, s); x != (api.Line{}) || e != api.ErrText {
			t.Errorf("%q %v %v", s, x, e)
		}
	}
	for _, o := range []api.Layout{none, every, {Report: true}, {Serial: true, Zone: true}} {
		if x, e := logs.ParseLine(o, "QSO 7 14025 M 1 0115 K1ABC > 599 012 < 599 003"); x != (api.Line{}) || e != api.ErrText {
			t.Error(o, x, e)
		}
	}
}

// P2.2, P2.4: for each layout; and what is read from a text with a byte changed has just that text.
func TestLinePromise(t *testing.T) {
	r := rand.New(rand.NewPCG(2, 2))
	const bytes = "0123456789 ><-MVDQSOA/a\t\n+"
	for _, o := range layouts() {
		for range 300 {
			x := anyLine(r, o, 1+r.IntN(65535), r.IntN(20001))
			s, e := logs.PrintLine(o, x)
			y, f := logs.ParseLine(o, s)
			if e != api.OK || f != api.OK || y != x || !logs.ValidLine(o, x) || logs.Fold(s) != s {
				t.Fatal(o, x, s, e, y, f)
			}
			for range 20 {
				b := []byte(s)
				b[r.IntN(len(b))] = bytes[r.IntN(len(bytes))]
				y, e := logs.ParseLine(o, string(b))
				back, f := logs.PrintLine(o, y)
				if e == api.OK && (f != api.OK || back != string(b)) || e != api.OK && (e != api.ErrText || y != (api.Line{})) {
					t.Fatalf("%q %v %v %q %v", b, y, e, back, f)
				}
			}
		}
	}
}
