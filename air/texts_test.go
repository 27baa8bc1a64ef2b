package air_test

import (
	"strings"
	"testing"

	"pileup/air"
	"pileup/api"
)

// layouts returns all layouts.
func layouts() []api.Layout {
	var l []api.Layout
	for i := range 8 {
		l = append(l, api.Layout{Report: i&1 > 0, Serial: i&2 > 0, Zone: i&4 > 0})
	}
	return l
}

// exchange is a short way to write an exchange.
func exchange(report, serial, zone int) api.Exchange {
	return api.Exchange{Report: report, Serial: serial, Zone: zone}
}

// A16: each part is within its limits where the layout has it, and 0 where it has not.
func TestValidExchange(t *testing.T) {
	most := [3]int{599, 99999, 99}
	for _, o := range layouts() {
		has := [3]bool{o.Report, o.Serial, o.Zone}
		for i := range 3 {
			for _, n := range []int{-1 << 63, -1, 0, 1, most[i], most[i] + 1, 1<<63 - 1} {
				var x [3]int
				for k := range 3 {
					if has[k] {
						x[k] = 1
					}
				}
				x[i] = n
				want := has[i] && n >= 1 && n <= most[i] || !has[i] && n == 0
				got := exchange(x[0], x[1], x[2])
				if air.ValidExchange(o, got) != want {
					t.Error(o, got, !want)
				}
				if s, e := air.PrintExchange(o, got); (e == api.OK) != want || !want && (e != api.ErrArg || s != "") {
					t.Error(o, got, s, e)
				}
			}
		}
	}
}

// A17, A18: texts as the chapter has them, and back.
func TestPrintExchange(t *testing.T) {
	for _, x := range []struct {
		o    api.Layout
		x    api.Exchange
		want string
	}{
		{api.Layout{Report: true, Serial: true, Zone: true}, exchange(599, 7, 5), "599 007 05"},
		{api.Layout{Report: true, Serial: true, Zone: true}, exchange(59, 1000, 40), "59 1000 40"},
		{api.Layout{Report: true, Serial: true, Zone: true}, exchange(1, 1, 1), "1 001 01"},
		{api.Layout{Report: true, Serial: true, Zone: true}, exchange(599, 99999, 99), "599 99999 99"},
		{api.Layout{}, exchange(0, 0, 0), "-"},
		{api.Layout{Report: true}, exchange(5, 0, 0), "5"},
		{api.Layout{Serial: true}, exchange(0, 12, 0), "012"},
		{api.Layout{Serial: true}, exchange(0, 999, 0), "999"},
		{api.Layout{Serial: true}, exchange(0, 99999, 0), "99999"},
		{api.Layout{Zone: true}, exchange(0, 0, 9), "09"},
		{api.Layout{Zone: true}, exchange(0, 0, 10), "10"},
		{api.Layout{Report: true, Serial: true}, exchange(599, 12, 0), "599 012"},
		{api.Layout{Report: true, Zone: true}, exchange(59, 0, 7), "59 07"},
		{api.Layout{Serial: true, Zone: true}, exchange(0, 100, 14), "100 14"},
	} {
		if s, e := air.PrintExchange(x.o, x.x); s != x.want || e != api.OK {
			t.Error(x, s, e)
		}
		if y, e := air.ParseExchange(x.o, x.want); y != x.x || e != api.OK {
			t.Error(x, y, e)
		}
	}
}

// A18: texts that no exchange has.
func TestParseExchangeErrors(t *testing.T) {
	all := api.Layout{Report: true, Serial: true, Zone: true}
	for _, x := range []struct {
		o api.Layout
		l []string
	}{
		{all, []string{
			"", "-", " ", "59", "59 1000", "59 7 05", "59 07 05", "059 007 05", "59 0007 05", "59  007 05", "59 007 5", "59 007 005", "600 007 05",
			"59 007 05 ", " 59 007 05", "59 007 05 1", "59 007  05", "59 000 05", "0 007 05", "59 007 00", "59 007 100", "59 100000 05", "59 00100 05",
			"+59 007 05", "59 +07 05", "59 007 +5", "-59 007 05", "59 -07 05", "59 007 -5", "59\t007\t05", "59 007 05\n", "5_9 007 05", "0x9 007 05",
			"59,007,05", "5٩ 007 05", "59 007 0\xff", "59 7 5", "599 007 05 -", "18446744073709551675 007 05", "59 18446744073709551623 05",
			"59 007 18446744073709551621", strings.Repeat("9", 1000),
		}},
		{api.Layout{}, []string{"", "--", " -", "- ", "0", "59", "599 007 05"}},
		{api.Layout{Report: true}, []string{"", "-", "59 007", "59 ", "059", "600", "0", "-1"}},
		{api.Layout{Serial: true}, []string{"", "-", "59 007", "7", "07", "0007", "000", "100000", "007 "}},
		{api.Layout{Zone: true}, []string{"", "-", "5", "005", "00", "100", "05 ", "59 05"}},
		{api.Layout{Report: true, Zone: true}, []string{"59", "59 5", "59 007 05", "59 007", "59-05"}},
	} {
		for _, s := range x.l {
			if y, e := air.ParseExchange(x.o, s); y != (api.Exchange{}) || e != api.ErrArg {
				t.Errorf("%v %q %v %v", x.o, s, y, e)
			}
		}
	}
}

// P1.7: printing and parsing undo each other, for each layout.
func TestExchangePromise(t *testing.T) {
	some := func(has bool, most int) []int {
		if !has {
			return []int{0}
		}
		l := []int{most - 1, most}
		for n := 1; n < most; n += 1 + n*2/5 {
			l = append(l, n)
		}
		return l
	}
	for _, o := range layouts() {
		seen := map[string]bool{}
		for _, report := range some(o.Report, 599) {
			for _, serial := range some(o.Serial, 99999) {
				for _, zone := range some(o.Zone, 99) {
					x := exchange(report, serial, zone)
					s, e := air.PrintExchange(o, x)
					y, f := air.ParseExchange(o, s)
					if e != api.OK || f != api.OK || y != x {
						t.Error(o, x, s, e, y, f)
					}
					seen[s] = true
				}
			}
		}
		if !o.Report && !o.Serial && !o.Zone && !seen["-"] {
			t.Error("no text of the empty layout")
		}
	}
}

// A19, A20 and P1.7: all minutes.
func TestTimes(t *testing.T) {
	for minute, want := range map[int]string{0: "1 0000", 1: "1 0001", 59: "1 0059", 60: "1 0100", 1439: "1 2359", 1440: "2 0000", 1505: "2 0105", 12960: "10 0000", 20000: "14 2120"} {
		if s, e := air.PrintTime(minute); s != want || e != api.OK {
			t.Error(minute, s, e)
		}
	}
	last := ""
	for minute := 0; minute <= 20000; minute++ {
		s, e := air.PrintTime(minute)
		back, f := air.ParseTime(s)
		if e != api.OK || back != minute || f != api.OK {
			t.Fatal(minute, s, e, back, f)
		}
		if minute%1440 != 0 && s <= last {
			t.Fatal(minute, s, "is not greater than", last)
		}
		last = s
	}
}

// A19, A20: no minutes, and texts that no minute has.
func TestTimeErrors(t *testing.T) {
	for _, n := range []int{-1, 20001, -1 << 63, 1<<63 - 1, -1440} {
		if s, e := air.PrintTime(n); s != "" || e != api.ErrArg {
			t.Error(n, s, e)
		}
	}
	for _, s := range []string{
		"", " ", "1", "1 ", " 0000", "0000", "0 0000", "1 2400", "1 2360", "1 0060", "1 0099", "1 9999", "01 0000", "1 000", "1 00000", "1 01234",
		"14 2121", "14 2200", "15 0000", "1 0000 ", " 1 0000", "1  0000", "-1 0000", "+1 0000", "1 +000", "1 -000", "1 -001", "1\t0000", "1 0000\n",
		"1 0000 0", "1 00:00", "1 00 00", "1 0a00", "A 0000", "0x1 0000", "1_0 0000", "1 0٠00", "1 000\xff", "9223372036854775808 0000",
		"18446744073709551617 0000", "12810238940076080 0000", "1 18446744073709551616", strings.Repeat("1", 1000) + " 0000", strings.Repeat("0", 1000) + "1 0000",
	} {
		if n, e := air.ParseTime(s); n != 0 || e != api.ErrTime {
			t.Errorf("%q %v %v", s, n, e)
		}
	}
}

// A20: of all short texts of day and clock just those of the minutes are times.
func TestAllClocks(t *testing.T) {
	times := map[string]int{}
	for minute := 0; minute <= 20000; minute++ {
		s, _ := air.PrintTime(minute)
		times[s] = minute
	}
	for _, day := range []string{"", "0", "1", "2", "9", "13", "14", "15", "01", "99"} {
		for _, clock := range texts("0123456789", 4) {
			s := day + " " + clock
			want, ok := times[s]
			n, e := air.ParseTime(s)
			if n != want || (e == api.OK) != ok || !ok && e != api.ErrTime {
				t.Fatal(s, n, e)
			}
		}
	}
}

// A21.
func TestDayOf(t *testing.T) {
	for _, x := range []struct {
		day, minute, want int
		e                 api.Errno
	}{
		{10, 1440, 11, api.OK}, {10, 1439, 10, api.OK}, {10, 0, 10, api.OK}, {0, 0, 0, api.OK}, {0, 20000, 13, api.OK}, {5, 2880, 7, api.OK},
		{99999, 1439, 99999, api.OK}, {99998, 2879, 99999, api.OK}, {99986, 20000, 99999, api.OK},
		{99999, 1440, 0, api.ErrLimit}, {99987, 20000, 0, api.ErrLimit}, {99998, 2880, 0, api.ErrLimit},
		{-1, 0, 0, api.ErrArg}, {-1, 1440, 0, api.ErrArg}, {100000, 0, 0, api.ErrArg}, {10, -1, 0, api.ErrArg}, {10, 20001, 0, api.ErrArg},
		{99999, 20001, 0, api.ErrArg}, {99999, -1, 0, api.ErrArg}, {1<<63 - 1, 20000, 0, api.ErrArg}, {-1 << 63, -1 << 63, 0, api.ErrArg}, {0, 1<<63 - 1, 0, api.ErrArg},
	} {
		if d, e := air.DayOf(x.day, x.minute); d != x.want || e != x.e {
			t.Error(x, d, e)
		}
	}
}
