package stamp_test

import (
	"math"
	"math/big"
	"strconv"
	"strings"
	"testing"

	"isobar/api"
	"isobar/stamp"
)

const last = api.MaxTime

// edges are numbers at, inside and outside all bounds of times, and those that an int has at its ends.
func edges() []int {
	return []int{math.MinInt, math.MinInt + 1, -2 * last, -last - 2, -last - 1, -last, -last + 1, -last / 2, -86400000, -1000, -7, -2, -1,
		0, 1, 2, 3, 7, 999, 1000, 60000, 86400000, last / 2, last/2 + 1, last - 1, last, last + 1, last + 2, 2 * last, math.MaxInt - 1, math.MaxInt}
}

// scatter answers n numbers from 0 to below bound, the same ones in each run.
func scatter(n, bound int) []int {
	l, x := make([]int, n), uint64(1)
	for i := range l {
		x = x*6364136223846793005 + 1442695040888963407
		l[i] = int((x ^ x>>29) % uint64(bound))
	}
	return l
}

func isTime(t int) bool { return t >= -last && t <= last }

func isLength(d int) bool { return d >= 1 && d <= last }

// whole is a number without an end, to hold against those that could run over.
func whole(n int) *big.Int { return big.NewInt(int64(n)) }

// cut answers n, or MaxTime on n's side.
func cut(n *big.Int) int {
	if n.CmpAbs(whole(last)) > 0 {
		return n.Sign() * last
	}
	return int(n.Int64())
}

// want holds a number and an error against what is asked; beside an error there is 0.
func want(t *testing.T, what string, got int, err api.Errno, number int, errno api.Errno) {
	t.Helper()
	if got != number || err != errno {
		t.Errorf("%s: %d, %v instead of %d, %v", what, got, err, number, errno)
	}
}

func list(l ...int) string {
	var s []string
	for _, n := range l {
		s = append(s, strconv.Itoa(n))
	}
	return strings.Join(s, ", ")
}

func TestP201PlusAndMinus(t *testing.T) {
	for _, c := range []struct{ a, b, plus, minus int }{
		{0, 0, 0, 0},
		{1, 2, 3, -1},
		{-5, 3, -2, -8},
		{-5, -3, -8, -2},
		{last, 0, last, last},
		{-last, 0, -last, -last},
		{last / 2, 1 - last/2, 1, last - 1},
	} {
		v, e := stamp.Plus(c.a, c.b)
		want(t, "Plus of "+list(c.a, c.b), v, e, c.plus, api.OK)
		v, e = stamp.Minus(c.a, c.b)
		want(t, "Minus of "+list(c.a, c.b), v, e, c.minus, api.OK)
	}
}

func TestP201Bounds(t *testing.T) {
	plus := func(a, b, number int, errno api.Errno) {
		t.Helper()
		v, e := stamp.Plus(a, b)
		want(t, "Plus of "+list(a, b), v, e, number, errno)
	}
	minus := func(a, b, number int, errno api.Errno) {
		t.Helper()
		v, e := stamp.Minus(a, b)
		want(t, "Minus of "+list(a, b), v, e, number, errno)
	}
	plus(last-1, 1, last, api.OK)
	plus(last, 1, 0, api.ErrArg)
	plus(1-last, -1, -last, api.OK)
	plus(-last, -1, 0, api.ErrArg)
	plus(last, -last, 0, api.OK)
	plus(last, last, 0, api.ErrArg)
	plus(last+1, -1, 0, api.ErrArg)
	plus(-1, last+1, 0, api.ErrArg)
	plus(-last-1, 1, 0, api.ErrArg)
	plus(1, -last-1, 0, api.ErrArg)
	plus(math.MaxInt, 1, 0, api.ErrArg)
	plus(math.MinInt, math.MinInt, 0, api.ErrArg)
	plus(math.MinInt, math.MaxInt, 0, api.ErrArg)
	minus(last-1, -1, last, api.OK)
	minus(last, -1, 0, api.ErrArg)
	minus(1-last, 1, -last, api.OK)
	minus(-last, 1, 0, api.ErrArg)
	minus(last, last, 0, api.OK)
	minus(-last, -last, 0, api.OK)
	minus(last, -last, 0, api.ErrArg)
	minus(last+1, 1, 0, api.ErrArg)
	minus(1, last+1, 0, api.ErrArg)
	minus(-last-1, -1, 0, api.ErrArg)
	minus(-1, -last-1, 0, api.ErrArg)
	minus(math.MaxInt, math.MaxInt, 0, api.ErrArg)
	minus(0, math.MinInt, 0, api.ErrArg)
	minus(-1, math.MinInt, 0, api.ErrArg)
}

func TestP201EveryEdge(t *testing.T) {
	for _, a := range edges() {
		for _, b := range edges() {
			sum, rest := new(big.Int).Add(whole(a), whole(b)), new(big.Int).Sub(whole(a), whole(b))
			v, e := stamp.Plus(a, b)
			wantTime(t, "Plus of "+list(a, b), v, e, sum, isTime(a) && isTime(b))
			v, e = stamp.Minus(a, b)
			wantTime(t, "Minus of "+list(a, b), v, e, rest, isTime(a) && isTime(b))
		}
	}
}

// wantTime asks for n, if what was handed in may be and n is a time, and for ErrArg else.
func wantTime(t *testing.T, what string, got int, err api.Errno, n *big.Int, may bool) {
	t.Helper()
	if may && n.CmpAbs(whole(last)) <= 0 {
		want(t, what, got, err, int(n.Int64()), api.OK)
	} else {
		want(t, what, got, err, 0, api.ErrArg)
	}
}

func wantDuration(t *testing.T, s string, number int, errno api.Errno) {
	t.Helper()
	d, e := stamp.Duration(s)
	want(t, strconv.Quote(s), d, e, number, errno)
}

func TestP202Duration(t *testing.T) {
	for s, d := range map[string]int{
		"1d": 86400000, "1h": 3600000, "1m": 60000, "1s": 1000, "1ms": 1, "5m": 300000, "90s": 90000, "100ms": 100, "36h": 129600000,
		"1h30m": 5400000, "1m1ms": 60001, "1d1ms": 86400001, "1d1m": 86460000, "2h5s": 7205000, "1s1ms": 1001, "1d2h3m4s5ms": 93784005,
		"1m1s": 61000, "1m500ms": 60500, "1h1m1s": 3661000, "9h10m": 33000000, "1s5000ms": 6000, "1m3600s": 3660000, "1h999m": 63540000,
		"0d5s": 5000, "5s0ms": 5000, "0d0h0m0s1ms": 1, "1d0h": 86400000, "0d1h0m": 3600000,
		"0005s": 5000, "00d01h": 3600000, "000000000000000000000000000000000000000000000000000000000007ms": 7,
	} {
		wantDuration(t, s, d, api.OK)
	}
}

func TestP202DurationOfAllParts(t *testing.T) {
	names, lengths := []string{"d", "h", "m", "s", "ms"}, []int{86400000, 3600000, 60000, 1000, 1}
	for set := 1; set < 1<<len(names); set++ {
		s, d := "", 0
		for i, name := range names {
			if set>>i&1 == 1 {
				s += strconv.Itoa(7+i) + name
				d += (7 + i) * lengths[i]
			}
		}
		wantDuration(t, s, d, api.OK)
	}
	for i, a := range names {
		for k, b := range names {
			s := "3" + a + "4" + b
			if i < k {
				wantDuration(t, s, 3*lengths[i]+4*lengths[k], api.OK)
			} else {
				wantDuration(t, s, 0, api.ErrForm)
			}
		}
	}
}

func TestP202DurationRefuses(t *testing.T) {
	for _, s := range []string{
		"", "5", "007", "0", "m", "ms", "d5", "h1m", "s5s", "mh", "1hm", "1h5", "1h5m3", "1hh", "1ms1", "1dd2h",
		"5m5m", "1ms1ms", "1d1d", "1d1h1d", "0s0s", "5s1m", "1ms1s", "1ms1m", "1m1d", "1s1h1ms", "1d1s1m1ms",
		"5x", "5w", "5y", "5us", "5ns", "5M", "5D", "5MS", "5mS", "5Ms", "5sm", "5mss", "5msm", "5mms", "5min", "1h5x", "5x1h", "5sms",
		"-5m", "+5m", "5-m", "5m-", "5m-3s", "5m+3s", "--5m", "-", "+", "1h-0s",
		"1.5h", ".5h", "5.m", "1e3s", "0x5s", "1_0s", "1,5s", "1:30m", "5m:", "[5m]",
		" 5m", "5m ", "5 m", "1h 30m", "5m\n", "\t5m", "5m\x00", "\x00", "5\x00m", "٥m", "5µs", "5ｍ", "½h", "\xff", "5\xff", "5m\xff", "\xff5m", "five",
	} {
		wantDuration(t, s, 0, api.ErrForm)
	}
}

func TestP202DurationNumber(t *testing.T) {
	for _, s := range []string{"0d", "0h", "0m", "0s", "0ms", "000s", "0d0h0m0s0ms", "0h0ms"} {
		wantDuration(t, s, 0, api.ErrArg)
	}
	for s, d := range map[string]int{
		"1125899906842624ms": last, "1125899906842623ms": last - 1, "1125899906842s624ms": last, "13031248d": 13031248 * 86400000,
		"13031248d22h7m22s624ms": last, "13031248d79642624ms": last, "0d0h1125899906842624ms": last, "312749974h442624ms": last,
		"18764998447m22624ms": last, "1125899906842s": last - 624, "00000001125899906842624ms": last,
	} {
		wantDuration(t, s, d, api.OK)
	}
	for _, s := range []string{
		"1125899906842625ms", "1125899906842s625ms", "1125899906843s", "13031249d", "312749975h", "18764998448m", "13031248d22h7m22s625ms",
		"13031248d79642625ms", "0d1125899906842625ms", "1d1125899906842624ms", "1125899906842s1125899906842624ms", "99999999999d",
		"213503982334d", "213503982335d", "106751991168d", "106751991167d", "18446744073709551616ms", "18446744073709551617ms", "9223372036854775808ms",
		"9223372036854775807ms", "18446744073709552s", "18446744073709551s616ms", "99999999999999999999999999ms", strings.Repeat("9", 63) + "d",
		strings.Repeat("9", 31) + "d" + strings.Repeat("9", 31) + "h", "1d" + strings.Repeat("9", 60) + "ms", strings.Repeat("9", 30) + "d0h0m0s0ms",
	} {
		wantDuration(t, s, 0, api.ErrArg)
	}
}

// TestP202DurationFormIsFirst: a text that is none is told so, also where the number of its parts may not be.
func TestP202DurationFormIsFirst(t *testing.T) {
	for _, s := range []string{"99999999999dx", "99999999999d5", "99999999999d1d", "9999999999999999999999999ms1s", "0s0s", "0s5", "0", "0x", "0s-", "99999999999999999999999",
		strings.Repeat("0", 64) + "s", strings.Repeat("9", 64) + "d"} {
		wantDuration(t, s, 0, api.ErrForm)
	}
}

func TestP202DurationIsBoundedByBytes(t *testing.T) {
	for s, d := range map[string]int{
		strings.Repeat("0", 62) + "7s":                                       7000,
		strings.Repeat("0", 61) + "7ms":                                      7,
		"1d" + strings.Repeat("0", 61) + "s":                                 86400000,
		strings.Repeat("0", 31) + "d" + "1h" + strings.Repeat("0", 29) + "s": 3600000,
	} {
		if len(s) != 64 {
			t.Fatalf("%q has %d bytes", s, len(s))
		}
		wantDuration(t, s, d, api.OK)
		wantDuration(t, "0"+s, 0, api.ErrForm)
	}
	wantDuration(t, strings.Repeat("0", 63)+"s", 0, api.ErrArg)
	for _, s := range []string{strings.Repeat("0", 64) + "s", strings.Repeat("x", 65), strings.Repeat("5", 1000), strings.Repeat("1d", 1<<16)} {
		wantDuration(t, s, 0, api.ErrForm)
	}
}

func TestP202Text(t *testing.T) {
	for d, s := range map[int]string{
		1: "1ms", 5: "5ms", 999: "999ms", 1000: "1s", 1001: "1s1ms", 59999: "59s999ms", 60000: "1m", 60001: "1m1ms", 61000: "1m1s", 90000: "1m30s",
		300000: "5m", 3599999: "59m59s999ms", 3600000: "1h", 3600001: "1h1ms", 3601000: "1h1s", 5400000: "1h30m", 86399999: "23h59m59s999ms",
		86400000: "1d", 86400001: "1d1ms", 86460000: "1d1m", 93784005: "1d2h3m4s5ms", 129600000: "1d12h", 864000000: "10d", 31536000000: "365d",
		last - 624: "13031248d22h7m22s", last - 1: "13031248d22h7m22s623ms", last: "13031248d22h7m22s624ms",
	} {
		text, e := stamp.Text(d)
		if text != s || e != api.OK {
			t.Errorf("%d: %s, %v instead of %s", d, text, e, s)
		}
	}
}

func TestP202TextRefuses(t *testing.T) {
	for _, d := range edges() {
		s, e := stamp.Text(d)
		if isLength(d) != (e == api.OK) || isLength(d) != (s != "") || e != api.OK && e != api.ErrArg {
			t.Errorf("%d: %q, %v", d, s, e)
		}
	}
}

// parts is which numbers and units a text is made of.
func parts(s string) (counts []int, names []string) {
	for s != "" {
		rest := strings.TrimLeft(s, "0123456789")
		count, _ := strconv.Atoi(s[:len(s)-len(rest)])
		s = strings.TrimLeft(rest, "dhms")
		counts, names = append(counts, count), append(names, rest[:len(rest)-len(s)])
	}
	return counts, names
}

func TestP202TextIsReadAgain(t *testing.T) {
	most := map[string]int{"d": last, "h": 23, "m": 59, "s": 59, "ms": 999}
	l := append(scatter(2000, last), scatter(2000, 100000000)...)
	for _, d := range append(l, 1, 2, last-1, last) {
		if d == 0 {
			continue
		}
		s, e := stamp.Text(d)
		if e != api.OK {
			t.Fatalf("%d: %v", d, e)
		}
		wantDuration(t, s, d, api.OK)
		counts, names := parts(s)
		for i, count := range counts {
			if count < 1 || count > most[names[i]] {
				t.Errorf("%d: a part of %s is %d", d, s, count)
			}
		}
	}
}

func TestP203Check(t *testing.T) {
	for _, c := range []struct {
		g    api.Grid
		want api.Errno
	}{
		{api.Grid{Start: 0, End: 0, Step: 1}, api.OK},
		{api.Grid{Start: -5, End: 10, Step: 4}, api.OK},
		{api.Grid{Start: 7, End: 7, Step: last}, api.OK},
		{api.Grid{Start: -last, End: last, Step: last}, api.OK},
		{api.Grid{Start: last, End: last, Step: 1}, api.OK},
		{api.Grid{Start: -last, End: -last, Step: 1}, api.OK},
		{api.Grid{}, api.ErrArg},
		{api.Grid{Start: 1, End: 0, Step: 1}, api.ErrArg},
		{api.Grid{Start: -1, End: -2, Step: 1}, api.ErrArg},
		{api.Grid{Start: last, End: -last, Step: 1}, api.ErrArg},
		{api.Grid{Start: 0, End: 10, Step: 0}, api.ErrArg},
		{api.Grid{Start: 0, End: 10, Step: -1}, api.ErrArg},
		{api.Grid{Start: 10, End: 0, Step: -1}, api.ErrArg},
		{api.Grid{Start: 0, End: 10, Step: last}, api.OK},
		{api.Grid{Start: 0, End: 10, Step: last + 1}, api.ErrArg},
		{api.Grid{Start: 0, End: 10, Step: math.MaxInt}, api.ErrArg},
		{api.Grid{Start: 0, End: 10, Step: math.MinInt}, api.ErrArg},
		{api.Grid{Start: -last - 1, End: -last, Step: 1}, api.ErrArg},
		{api.Grid{Start: last, End: last + 1, Step: 1}, api.ErrArg},
		{api.Grid{Start: last + 1, End: last + 1, Step: 1}, api.ErrArg},
		{api.Grid{Start: -last - 1, End: -last - 1, Step: 1}, api.ErrArg},
		{api.Grid{Start: math.MinInt, End: math.MaxInt, Step: 1}, api.ErrArg},
		{api.Grid{Start: math.MinInt, End: math.MinInt, Step: math.MinInt}, api.ErrArg},
		{api.Grid{Start: 0, End: api.MaxSteps - 1, Step: 1}, api.OK},
		{api.Grid{Start: 0, End: api.MaxSteps, Step: 1}, api.ErrLimit},
		{api.Grid{Start: -api.MaxSteps, End: -1, Step: 1}, api.OK},
		{api.Grid{Start: -api.MaxSteps, End: 0, Step: 1}, api.ErrLimit},
		{api.Grid{Start: 3, End: 3 + 1000*api.MaxSteps - 1, Step: 1000}, api.OK},
		{api.Grid{Start: 3, End: 3 + 1000*api.MaxSteps, Step: 1000}, api.ErrLimit},
		{api.Grid{Start: -last, End: last, Step: 1}, api.ErrLimit},
		{api.Grid{Start: -last, End: last, Step: last / (api.MaxSteps / 2)}, api.ErrLimit},
		{api.Grid{Start: -last, End: last - 1, Step: last / (api.MaxSteps / 2)}, api.OK},
		{api.Grid{Start: -last, End: last, Step: last/(api.MaxSteps/2) + 1}, api.OK},
		{api.Grid{Start: 1, End: 0, Step: 0}, api.ErrArg},
		{api.Grid{Start: 0, End: last + 1, Step: 1}, api.ErrArg},
	} {
		if e := stamp.Check(c.g); e != c.want {
			t.Errorf("%v: %v instead of %v", c.g, e, c.want)
		}
		if c.want != api.OK {
			wantNoPoints(t, c.g)
		}
	}
}

func wantNoPoints(t *testing.T, g api.Grid) {
	t.Helper()
	if n := stamp.Points(g); n != 0 {
		t.Errorf("%v: %d points", g, n)
	}
	for _, i := range []int{math.MinInt, -1, 0, 1, math.MaxInt} {
		if at, ok := stamp.At(g, i); at != 0 || ok {
			t.Errorf("%v: point %d: %d, %v", g, i, at, ok)
		}
	}
}

func TestP203CheckOfEveryEdge(t *testing.T) {
	for _, start := range edges() {
		for _, end := range edges() {
			for _, step := range edges() {
				g := api.Grid{Start: start, End: end, Step: step}
				want := api.OK
				if !isTime(start) || !isTime(end) || start > end || !isLength(step) {
					want = api.ErrArg
				} else if (end-start)/step >= api.MaxSteps {
					want = api.ErrLimit
				}
				if e := stamp.Check(g); e != want {
					t.Errorf("%v: %v instead of %v", g, e, want)
				}
				if want != api.OK {
					wantNoPoints(t, g)
				}
			}
		}
	}
}

func TestP203PointsAndAt(t *testing.T) {
	for _, c := range []struct {
		g    api.Grid
		want []int
	}{
		{api.Grid{Start: 0, End: 0, Step: 1}, []int{0}},
		{api.Grid{Start: 5, End: 5, Step: last}, []int{5}},
		{api.Grid{Start: -5, End: 10, Step: 4}, []int{-5, -1, 3, 7}},
		{api.Grid{Start: -5, End: 11, Step: 4}, []int{-5, -1, 3, 7, 11}},
		{api.Grid{Start: -5, End: 12, Step: 4}, []int{-5, -1, 3, 7, 11}},
		{api.Grid{Start: 0, End: 9, Step: 10}, []int{0}},
		{api.Grid{Start: 0, End: 10, Step: 10}, []int{0, 10}},
		{api.Grid{Start: -10, End: -8, Step: 1}, []int{-10, -9, -8}},
		{api.Grid{Start: -last, End: last, Step: last}, []int{-last, 0, last}},
		{api.Grid{Start: -last, End: last - 1, Step: last}, []int{-last, 0}},
		{api.Grid{Start: last - 1, End: last, Step: 1}, []int{last - 1, last}},
	} {
		if n := stamp.Points(c.g); n != len(c.want) {
			t.Errorf("%v: %d points instead of %d", c.g, n, len(c.want))
		}
		for i, want := range c.want {
			if at, ok := stamp.At(c.g, i); at != want || !ok {
				t.Errorf("%v: point %d: %d, %v instead of %d", c.g, i, at, ok, want)
			}
		}
		for _, i := range []int{math.MinInt, -1 << 40, -1, len(c.want), len(c.want) + 1, 1 << 40, math.MaxInt} {
			if at, ok := stamp.At(c.g, i); at != 0 || ok {
				t.Errorf("%v: point %d: %d, %v", c.g, i, at, ok)
			}
		}
	}
}

func TestP203PointsOfGreatGrids(t *testing.T) {
	for _, g := range []api.Grid{
		{Start: 0, End: api.MaxSteps - 1, Step: 1},
		{Start: 3, End: 3 + 1000*api.MaxSteps - 1, Step: 1000},
		{Start: -last, End: last - 1, Step: last / (api.MaxSteps / 2)},
	} {
		n := stamp.Points(g)
		if n != api.MaxSteps {
			t.Fatalf("%v: %d points", g, n)
		}
		for i := range n {
			if at, ok := stamp.At(g, i); at != g.Start+i*g.Step || at > g.End || !ok {
				t.Fatalf("%v: point %d: %d, %v", g, i, at, ok)
			}
		}
		if at, ok := stamp.At(g, n); at != 0 || ok {
			t.Errorf("%v: point %d: %d, %v", g, n, at, ok)
		}
	}
}

func wantAligned(t *testing.T, at, step, number int, errno api.Errno) {
	t.Helper()
	v, e := stamp.Align(at, step)
	want(t, "Align of "+list(at, step), v, e, number, errno)
}

func TestP203Align(t *testing.T) {
	for _, c := range [][3]int{
		{0, 1, 0}, {0, 5, 0}, {4, 5, 0}, {5, 5, 5}, {6, 5, 5}, {9, 5, 5}, {10, 5, 10}, {-1, 5, -5}, {-4, 5, -5}, {-5, 5, -5}, {-6, 5, -10},
		{-7, 5, -10}, {-10, 5, -10}, {-11, 5, -15}, {-1, 1, -1}, {7, 1, 7}, {-7, 1, -7}, {299999, 300000, 0}, {300000, 300000, 300000}, {-300001, 300000, -600000},
		{last, last, last}, {last - 1, last, 0}, {0, last, 0}, {-1, last, -last}, {-last, last, -last}, {1 - last, last, -last}, {last, last - 1, last - 1},
		{-last, 1, -last}, {last, 1, last}, {-last, 2, -last}, {-last, 1 << 49, -last}, {last, 3, last - 1}, {2 - last, 3, 1 - last}, {1 - last, 3, 1 - last}, {-1, last - 1, 1 - last},
	} {
		wantAligned(t, c[0], c[1], c[2], api.OK)
	}
}

func TestP203AlignRefuses(t *testing.T) {
	for _, c := range [][2]int{
		{-last, 3}, {-last, 5}, {-last, last - 1}, {1 - last, last/2 + 1}, {-last/2 - 2, last/2 + 1},
		{last + 1, 1}, {-last - 1, 1}, {last + 1, last}, {math.MaxInt, 7}, {math.MinInt, 7}, {math.MinInt, 1}, {math.MinInt, -1},
		{5, 0}, {0, 0}, {5, -1}, {5, -5}, {5, last + 1}, {0, math.MinInt}, {0, math.MaxInt},
	} {
		wantAligned(t, c[0], c[1], 0, api.ErrArg)
	}
	// One step more or less, and the multiple is a time again.
	wantAligned(t, -last/2-1, last/2+1, -last/2-1, api.OK)
	wantAligned(t, 1-last, last/2, -last, api.OK)
}

func TestP203AlignOfEveryEdge(t *testing.T) {
	for _, at := range append(edges(), scatter(50, last)...) {
		for _, step := range edges() {
			if !isTime(at) || !isLength(step) {
				wantAligned(t, at, step, 0, api.ErrArg)
				continue
			}
			// Of a step above 0 Div is the quotient downwards, also of numbers below 0.
			multiple := new(big.Int).Mul(new(big.Int).Div(whole(at), whole(step)), whole(step))
			v, e := stamp.Align(at, step)
			wantTime(t, "Align of "+list(at, step), v, e, multiple, true)
		}
	}
}

func TestP203Within(t *testing.T) {
	for _, c := range [][5]int{
		{10, 3, 12, 7, -2},
		{10, 12, 3, -2, 7},
		{0, 0, 0, 0, 0},
		{-5, -5, -6, 0, 1},
		{last, 0, 1, last, last - 1},
		{last, -1, 0, last, last},
		{-last, 0, 1, -last, -last},
		{last, -last, last, last, 0},
		{-last, last, -last, -last, 0},
		{last + 1, 1, 0, last, last},
		{last + 5, 6, last + 4, last - 1, 1},
		{math.MaxInt, math.MinInt, math.MaxInt, last, 0},
		{math.MinInt, math.MaxInt, math.MinInt, -last, 0},
		{math.MaxInt, math.MaxInt - 1, math.MaxInt - last - 1, 1, last},
		{math.MinInt, math.MinInt + 1, math.MinInt + last - 1, -1, 1 - last},
		{math.MinInt, math.MinInt + last, math.MinInt + last + 1, -last, -last},
		{0, math.MinInt, math.MaxInt, last, -last},
		{-1, math.MinInt, math.MaxInt, last, -last},
	} {
		a, b := stamp.Within(c[0], c[1], c[2])
		if a != c[3] || b != c[4] {
			t.Errorf("Within of %s: %d, %d instead of %d, %d", list(c[:3]...), a, b, c[3], c[4])
		}
	}
}

func TestP203WithinOfEveryEdge(t *testing.T) {
	for _, at := range edges() {
		for _, from := range edges() {
			for _, to := range edges() {
				a, b := stamp.Within(at, from, to)
				behind, ahead := cut(new(big.Int).Sub(whole(at), whole(from))), cut(new(big.Int).Sub(whole(at), whole(to)))
				if a != behind || b != ahead {
					t.Errorf("Within of %s: %d, %d instead of %d, %d", list(at, from, to), a, b, behind, ahead)
				}
			}
		}
	}
}

// TestP1EveryTextIsAnswered: all texts that a few bytes make, held against another way of reading them.
func TestP1EveryTextIsAnswered(t *testing.T) {
	pieces := []string{"", "0", "1", "7", "d", "h", "m", "s", "-", "x", "\xff"}
	durations := 0
	for n := range len(pieces) * len(pieces) * len(pieces) * len(pieces) * len(pieces) {
		s := ""
		for k := n; k > 0; k /= len(pieces) {
			s += pieces[k%len(pieces)]
		}
		number, errno := reading(s)
		wantDuration(t, s, number, errno)
		if errno == api.OK {
			durations++
		}
	}
	if durations == 0 {
		t.Error("no text is a duration")
	}
}

// reading is what Duration owes for a short text: unit by unit, not byte by byte.
func reading(s string) (int, api.Errno) {
	lengths := map[string]int{"d": 86400000, "h": 3600000, "m": 60000, "s": 1000, "ms": 1}
	sum, rest := 0, s
	for _, name := range []string{"d", "h", "m", "s", "ms"} {
		digits := len(rest) - len(strings.TrimLeft(rest, "0123456789"))
		tail, ok := strings.CutPrefix(rest[digits:], name)
		if digits == 0 || !ok || tail != "" && !strings.Contains("0123456789", tail[:1]) {
			continue
		}
		count, _ := strconv.Atoi(rest[:digits])
		sum, rest = sum+count*lengths[name], tail
	}
	switch {
	case s == "" || rest != "":
		return 0, api.ErrForm
	case sum == 0:
		return 0, api.ErrArg
	}
	return sum, api.OK
}

// TestP3TheSameAgain: nothing is kept from call to call.
func TestP3TheSameAgain(t *testing.T) {
	for range 3 {
		wantDuration(t, "1d2h3m4s5ms", 93784005, api.OK)
		wantDuration(t, "1d2h3m4s5", 0, api.ErrForm)
		wantDuration(t, "1ms", 1, api.OK)
		if s, e := stamp.Text(93784005); s != "1d2h3m4s5ms" || e != api.OK {
			t.Errorf("again: %s, %v", s, e)
		}
	}
}
