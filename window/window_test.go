package window_test

import (
	"fmt"
	"math"
	"math/big"
	"slices"
	"testing"

	"isobar/api"
	"isobar/stamp"
	"isobar/wave"
	"isobar/window"
)

const last = api.MaxTime

var (
	inf   = math.Inf(1)
	minus = math.Copysign(0, -1)
	nan   = math.Float64frombits(0x7FF8000000000001)
	stale = math.Float64frombits(0x7FF0000000000002)
	odd   = math.Float64frombits(0xFFF8000000000007)
	least = math.SmallestNonzeroFloat64
	most  = math.MaxFloat64
)

func functions() []int {
	return []int{api.WCount, api.WSum, api.WAvg, api.WMin, api.WMax, api.WLast, api.WFirst, api.WIncrease, api.WRate, api.WDelta, api.WChanges, api.WResets, api.WMag, api.WTurn}
}

// strangers are numbers of no function.
func strangers() []int {
	return []int{math.MinInt, -15, -1, 0, 15, 16, 1 << 32, 1<<32 + 1, math.MaxInt}
}

func needsTwo(fn int) bool {
	return fn == api.WIncrease || fn == api.WRate || fn == api.WDelta
}

// at answers samples of these values at 10, 20 and so on.
func at(v ...float64) []api.Sample {
	var l []api.Sample
	for i, x := range v {
		l = append(l, api.Sample{T: 10*i + 10, V: x})
	}
	return l
}

func show(l ...float64) string {
	s := ""
	for _, v := range l {
		s += fmt.Sprintf("%v (%X) ", v, math.Float64bits(v))
	}
	return s
}

// by and less are steps of arithmetic that are rounded as the program is run: those of constants are not.
func by(a, b float64) float64 { return a / b }

func less(a, b float64) float64 { return a - b }

// canonBits are v's bits, those of the common NaN in place of all: written here apart from the program.
func canonBits(v float64) uint64 {
	if math.IsNaN(v) {
		return math.Float64bits(nan)
	}
	return math.Float64bits(v)
}

// wantValue asks for a value bit by bit, the common NaN in place of all, and for 0 where there is none.
func wantValue(t *testing.T, what string, got float64, ok bool, v float64, has bool) {
	t.Helper()
	if !has {
		v = 0
	}
	if ok != has || math.Float64bits(got) != canonBits(v) {
		t.Errorf("%s: %s, %v instead of %s, %v", what, show(got), ok, show(v), has)
	}
}

// wantOf asks for a function's value of values that all stand in a stretch of 1000 milliseconds.
func wantOf(t *testing.T, fn int, want float64, v ...float64) {
	t.Helper()
	got, ok := window.Fn(fn, at(v...), 0, 1000)
	wantValue(t, window.Name(fn)+" of "+show(v...), got, ok, want, true)
}

func wantNone(t *testing.T, fn int, s []api.Sample, from, to int) {
	t.Helper()
	got, ok := window.Fn(fn, s, from, to)
	wantValue(t, fmt.Sprintf("function %d of %v from %d to %d", fn, s, from, to), got, ok, 0, false)
}

func wantCut(t *testing.T, s []api.Sample, from, to int, want ...api.Sample) {
	t.Helper()
	if got := window.Cut(s, from, to); !slices.Equal(got, want) {
		t.Errorf("Cut of %v from %d to %d: %v instead of %v", s, from, to, got, want)
	}
}

func TestP801Cut(t *testing.T) {
	s := at(1, 2, 3, 4)
	wantCut(t, s, 0, 40, s...)
	wantCut(t, s, 10, 40, s[1:]...)
	wantCut(t, s, 9, 40, s...)
	wantCut(t, s, 0, 39, s[:3]...)
	wantCut(t, s, 10, 30, s[1:3]...)
	wantCut(t, s, 11, 29, s[1])
	wantCut(t, s, 19, 20, s[1])
	wantCut(t, s, 20, 21)
	wantCut(t, s, 20, 29)
	wantCut(t, s, 40, 99)
	wantCut(t, s, -9, 9)
	wantCut(t, s, -9, 10, s[0])
	wantCut(t, s, 20, 20)
	wantCut(t, s, 30, 20)
	wantCut(t, s, 40, 0)
	wantCut(t, s, math.MinInt, math.MaxInt, s...)
	wantCut(t, s, math.MaxInt, math.MinInt)
	wantCut(t, nil, 0, 40)
	wantCut(t, []api.Sample{}, 0, 40)
	ends := []api.Sample{{T: -2 * last, V: 1}, {T: 2 * last, V: 2}}
	wantCut(t, ends, -2*last, 2*last, ends[1])
	wantCut(t, ends, -2*last-1, 2*last, ends...)
	wantCut(t, ends, -2*last-1, 2*last-1, ends[0])
	ends = []api.Sample{{T: math.MinInt, V: 1}, {T: math.MaxInt, V: 2}}
	wantCut(t, ends, math.MinInt, math.MaxInt, ends[1])
}

// TestP801CutIsAsItWas: values go through with all their bits, the stale one and -0 too.
func TestP801CutIsAsItWas(t *testing.T) {
	s := at(stale, minus, odd, nan, inf)
	l := window.Cut(s, 0, 50)
	if len(l) != len(s) {
		t.Fatalf("%d samples instead of %d", len(l), len(s))
	}
	for i, x := range l {
		if x.T != s[i].T || math.Float64bits(x.V) != math.Float64bits(s[i].V) {
			t.Errorf("%d, %s instead of %d, %s", x.T, show(x.V), s[i].T, show(s[i].V))
		}
	}
}

func TestP801CountSumAverage(t *testing.T) {
	wantOf(t, api.WCount, 1, 7)
	wantOf(t, api.WCount, 3, 7, nan, stale)
	wantOf(t, api.WSum, 7, 7)
	wantOf(t, api.WSum, 6.5, 1, 2, 3.5)
	wantOf(t, api.WSum, minus, minus)
	wantOf(t, api.WSum, 0, minus, 0)
	wantOf(t, api.WSum, 0, 1e16, 1, -1e16)
	wantOf(t, api.WSum, 1, 1e16, -1e16, 1)
	wantOf(t, api.WSum, 0.6000000000000001, 0.1, 0.2, 0.3)
	wantOf(t, api.WSum, nan, inf, 1, -inf)
	wantOf(t, api.WSum, inf, most, most, -most)
	wantOf(t, api.WSum, nan, 1, stale)
	wantOf(t, api.WAvg, 7, 7)
	wantOf(t, api.WAvg, 2.5, 1, 2, 3, 4)
	wantOf(t, api.WAvg, minus, minus, minus)
	wantOf(t, api.WAvg, by(1, 3), 0, 0, 1)
	wantOf(t, api.WAvg, by(0.6000000000000001, 3), 0.1, 0.2, 0.3)
	wantOf(t, api.WAvg, inf, most, most)
	wantOf(t, api.WAvg, 0, least, 0)
	wantOf(t, api.WAvg, -inf, -inf, 1)
	wantOf(t, api.WAvg, nan, 1, odd)
}

func TestP801MinMax(t *testing.T) {
	wantOf(t, api.WMin, 1, 3, 1, 2)
	wantOf(t, api.WMax, 3, 1, 3, 2)
	wantOf(t, api.WMin, -inf, 1, -inf, -most)
	wantOf(t, api.WMax, inf, 1, inf, most)
	wantOf(t, api.WMin, -2, -2, 5)
	wantOf(t, api.WMax, 5, -2, 5)
	for _, fn := range []int{api.WMin, api.WMax} {
		wantOf(t, fn, 4, 4)
		wantOf(t, fn, minus, minus, 0) // neither is below the other: the first one stays
		wantOf(t, fn, 0, 0, minus)
		wantOf(t, fn, minus, minus)
		wantOf(t, fn, 5, nan, 5)
		wantOf(t, fn, 5, 5, nan)
		wantOf(t, fn, 5, stale, odd, 5, nan)
		wantOf(t, fn, nan, nan, stale, odd)
		wantOf(t, fn, nan, stale)
		wantOf(t, fn, minus, nan, minus, 0)
	}
	wantOf(t, api.WMin, 2, nan, 7, nan, 2, 5)
	wantOf(t, api.WMax, 7, nan, 2, nan, 7, 5)
	wantOf(t, api.WMin, inf, nan, inf)
	wantOf(t, api.WMax, -inf, nan, -inf)
}

func TestP801LastFirstDelta(t *testing.T) {
	wantOf(t, api.WLast, 3, 1, 2, 3)
	wantOf(t, api.WFirst, 1, 1, 2, 3)
	wantOf(t, api.WLast, minus, 1, minus)
	wantOf(t, api.WFirst, minus, minus, 1)
	wantOf(t, api.WLast, nan, 1, stale)
	wantOf(t, api.WFirst, nan, stale, 1)
	wantOf(t, api.WLast, least, least)
	wantOf(t, api.WFirst, -inf, -inf)
	wantOf(t, api.WDelta, 4, 1, 100, 5)
	wantOf(t, api.WDelta, -4, 5, 1)
	wantOf(t, api.WDelta, 0, 3, 3)
	wantOf(t, api.WDelta, 0, minus, minus)
	wantOf(t, api.WDelta, minus, 0, minus)
	wantOf(t, api.WDelta, nan, inf, 1, inf)
	wantOf(t, api.WDelta, 2, 1, nan, 3)
	wantOf(t, api.WDelta, nan, nan, 3)
	wantOf(t, api.WDelta, nan, 3, stale)
	wantOf(t, api.WDelta, 0.19999999999999998, 0.1, 0.3)
	wantOf(t, api.WDelta, -inf, most, -most)
}

func TestP801Increase(t *testing.T) {
	wantOf(t, api.WIncrease, 3, 1, 2, 4)
	wantOf(t, api.WIncrease, 0, 4, 4, 4)
	wantOf(t, api.WIncrease, 2+1+2, 4, 6, 1, 1, 3)
	wantOf(t, api.WIncrease, 0, 5, 0)
	wantOf(t, api.WIncrease, -2, 5, -2)
	wantOf(t, api.WIncrease, -2+7, 5, -2, 5)
	wantOf(t, api.WIncrease, 0, 0, minus) // -0 less 0 is -0, and 0 with that 0
	wantOf(t, api.WIncrease, 0, 5, minus)
	wantOf(t, api.WIncrease, nan, 1, nan, 3)
	wantOf(t, api.WIncrease, nan, stale, 3)
	wantOf(t, api.WIncrease, inf, 1, inf)
	wantOf(t, api.WIncrease, nan, inf, inf)
	wantOf(t, api.WIncrease, inf, -inf, 3)
	wantOf(t, api.WIncrease, 3, inf, 3)
	wantOf(t, api.WIncrease, -inf, 3, -inf)
	wantOf(t, api.WIncrease, less(0.3, 0.1)+less(0.7, 0.3), 0.1, 0.3, 0.7)
	wantOf(t, api.WIncrease, 0.7+less(0.9, 0.7), 0.8, 0.7, 0.9)
	// From the left, each step rounded by itself: 1 and 1 are lost one by one, though not together.
	wantOf(t, api.WIncrease, 1e16, 0, 1e16, 1, 2)
	wantOf(t, api.WIncrease, 1e16+2, 0, 1, 2, 1e16+2)
	wantOf(t, api.WIncrease, 1e16+2, 0, 1, 2, 0, 1e16)
}

func TestP801Rate(t *testing.T) {
	s := at(1, 2, 4)
	for _, c := range []struct {
		from, to int
		want     float64
	}{
		{0, 30, by(3, 0.03)},
		{0, 1000, 3},
		{0, 2000, 1.5},
		{10, 30, by(2, 0.02)},
		{0, 20, by(1, 0.02)},
		{-970, 30, 3},
		{0, 7, 0},
		{0, 3000, 1},
		{-2 * last, 2 * last, by(3, by(1<<52, 1000))},
		{-2*last + 1, 2 * last, by(3, by(1<<52-1, 1000))},
	} {
		got, ok := window.Fn(api.WRate, s, c.from, c.to)
		wantValue(t, fmt.Sprintf("rate from %d to %d", c.from, c.to), got, ok, c.want, c.to > 10)
	}
	wantOf(t, api.WRate, 2+1+2, 4, 6, 1, 1, 3)
	wantOf(t, api.WRate, nan, 4, nan)
	wantOf(t, api.WRate, inf, 4, inf)
	wantOf(t, api.WRate, -2, 5, -2)
	wantOf(t, api.WRate, 0, 5, minus)
}

// TestP801RateRoundsEachStep: the length is divided by 1000 first, and the increase by that.
func TestP801RateRoundsEachStep(t *testing.T) {
	tells := 0
	s := []api.Sample{{T: 5, V: 0}, {T: 6, V: 7}}
	for length := 2; length < 2000; length++ {
		want := 7 / (float64(length) / 1000)
		got, ok := window.Fn(api.WRate, s, 6-length, 6)
		wantValue(t, fmt.Sprintf("rate over %d", length), got, ok, want, true)
		if want != 7*1000/float64(length) || want != 7/float64(length)*1000 {
			tells++
		}
	}
	if tells == 0 {
		t.Error("no length tells")
	}
}

func TestP801ChangesAndResets(t *testing.T) {
	wantOf(t, api.WChanges, 0, 5)
	wantOf(t, api.WChanges, 0, 5, 5, 5)
	wantOf(t, api.WChanges, 3, 1, 2, 2, 1, 3)
	wantOf(t, api.WChanges, 2, 0, minus, 0)
	wantOf(t, api.WChanges, 0, nan, stale, odd)
	wantOf(t, api.WChanges, 2, 1, nan, stale, 1)
	wantOf(t, api.WChanges, 1, inf, inf, -inf)
	wantOf(t, api.WResets, 0, 5)
	wantOf(t, api.WResets, 0, 1, 2, 2, 3)
	wantOf(t, api.WResets, 2, 3, 1, 1, 4, 2)
	wantOf(t, api.WResets, 0, 0, minus)
	wantOf(t, api.WResets, 0, 5, nan, 3, nan)
	wantOf(t, api.WResets, 1, inf, 1)
	wantOf(t, api.WResets, 1, nan, 2, least)
	wantOf(t, api.WResets, 3, 3, 2, 1, -inf)
}

func TestP801MagAndTurn(t *testing.T) {
	wantOf(t, api.WMag, 9, 3)
	wantOf(t, api.WMag, 25, 3, 4)
	wantOf(t, api.WMag, 4*4+4*4, 1, 2, 5, 6)
	wantOf(t, api.WMag, 0, 1, 1, 1, 1)
	wantOf(t, api.WMag, 0, minus)
	wantOf(t, api.WMag, nan, 1, stale)
	wantOf(t, api.WMag, inf, inf, 1)
	wantOf(t, api.WMag, inf, most)
	wantOf(t, api.WMag, 0.010000000000000002, 0.1)
	wantOf(t, api.WTurn, 0, 3)
	wantOf(t, api.WTurn, 0, 3, 4)
	wantOf(t, api.WTurn, 1, 0, 4)
	wantOf(t, api.WTurn, 1, 1, 1, 1)
	wantOf(t, api.WTurn, 2, 0, 0, 1)
	wantOf(t, api.WTurn, 2, 0, 0, 1, 1)
	wantOf(t, api.WTurn, 2, -3)
	wantOf(t, api.WTurn, 3, 0, -1)
	wantOf(t, api.WTurn, 3, 1, 0, 0, 1)
	wantOf(t, api.WTurn, 0, minus)
	wantOf(t, api.WTurn, 0, nan, 4)
	wantOf(t, api.WTurn, 0, -inf, stale)
	wantOf(t, api.WTurn, 2, -inf)
}

func TestP801Few(t *testing.T) {
	s := at(1, 2, 3, 4)
	for _, fn := range functions() {
		wantNone(t, fn, nil, 0, 50)
		wantNone(t, fn, []api.Sample{}, 0, 50)
		wantNone(t, fn, s, 40, 50)
		wantNone(t, fn, s, 0, 9)
		wantNone(t, fn, s, 20, 29)
		for _, x := range []float64{5, 0, nan, stale, inf} {
			v, ok := window.Fn(fn, at(x), 0, 50)
			if ok == needsTwo(fn) || !ok && v != 0 {
				t.Errorf("%s of %v alone: %v, %v", window.Name(fn), x, v, ok)
			}
		}
		if v, ok := window.Fn(fn, s, 10, 20); ok == needsTwo(fn) || !ok && v != 0 {
			t.Errorf("%s of one of several: %v, %v", window.Name(fn), v, ok)
		}
		if _, ok := window.Fn(fn, s, 10, 30); !ok {
			t.Errorf("%s of two of several is not there", window.Name(fn))
		}
	}
}

func TestP801FromNotBelowTo(t *testing.T) {
	s := at(1, 2, 3, 4)
	for _, fn := range functions() {
		for _, c := range [][2]int{{20, 20}, {21, 20}, {50, 0}, {2 * last, -2 * last}, {math.MaxInt, math.MinInt}, {math.MinInt, math.MinInt}, {math.MaxInt, math.MaxInt}} {
			wantNone(t, fn, s, c[0], c[1])
		}
	}
}

func TestP801NoSuchFunction(t *testing.T) {
	for _, fn := range strangers() {
		wantNone(t, fn, at(1, 2, 3), 0, 50)
		wantNone(t, fn, nil, 0, 50)
		if s := window.Name(fn); s != "" {
			t.Errorf("Name of %d: %q", fn, s)
		}
	}
}

func TestP801Names(t *testing.T) {
	names := []string{"", "count_over_time", "sum_over_time", "avg_over_time", "min_over_time", "max_over_time", "last_over_time", "first_over_time", "increase", "rate", "delta", "changes", "resets", "wave_mag", "wave_turn"}
	for _, fn := range functions() {
		if s := window.Name(fn); s != names[fn] {
			t.Errorf("Name of %d: %q", fn, s)
		}
		if n, ok := window.Named(names[fn]); n != fn || !ok {
			t.Errorf("Named of %q: %d, %v", names[fn], n, ok)
		}
		for _, s := range []string{names[fn] + " ", " " + names[fn], names[fn] + "s", names[fn][1:], names[fn][:len(names[fn])-1], string(names[fn][0]-'a'+'A') + names[fn][1:], names[fn] + "\x00"} {
			if n, ok := window.Named(s); n != 0 || ok {
				t.Errorf("Named of %q: %d, %v", s, n, ok)
			}
		}
	}
	for _, s := range []string{"", "_", "over_time", "sum", "count", "Rate", "\xff", "rate\n"} {
		if n, ok := window.Named(s); n != 0 || ok {
			t.Errorf("Named of %q: %d, %v", s, n, ok)
		}
	}
}

// scatter answers n numbers from 0 to below bound, the same ones in each run of the same seed.
func scatter(seed uint64, n, bound int) []int {
	l, x := make([]int, n), seed
	for i := range l {
		x = x*6364136223846793005 + 1442695040888963407
		l[i] = int((x ^ x>>29) % uint64(bound))
	}
	return l
}

// made answers n samples at rising times from first on, of values among which the odd ones are not rare.
func made(seed uint64, n, first int) []api.Sample {
	v := []float64{0, minus, 1, 1, 2, 3, 5, -1, 0.1, 0.2, 0.3, 1e16, -1e16, 7, 9, nan, stale, inf, -inf, most, least}
	most := len(v)
	if seed%2 == 0 {
		most -= 6 // numbers alone: what is NaN once is NaN ever after
	}
	gaps, places := scatter(seed, n, 9), scatter(seed+1, n, most)
	var l []api.Sample
	for i, gap := range gaps {
		first += gap + 1
		l = append(l, api.Sample{T: first, V: v[places[i]]})
	}
	return l
}

// told is the document's table, worked out by other means: of a list that is picked sample by sample.
func told(fn int, s []api.Sample, from, to int) (float64, bool) {
	var v []float64
	for _, x := range s {
		if from < x.T && x.T <= to {
			v = append(v, x.V)
		}
	}
	if len(v) == 0 || needsTwo(fn) && len(v) == 1 {
		return 0, false
	}
	return value(fn, v, to-from), true
}

func value(fn int, v []float64, length int) float64 {
	ahead, x := v[:len(v)-1], v[len(v)-1]
	switch fn {
	case api.WCount:
		return float64(len(v))
	case api.WSum:
		if len(v) == 1 {
			return x
		}
		return value(fn, ahead, length) + x
	case api.WAvg:
		return value(api.WSum, v, length) / float64(len(v))
	case api.WMin, api.WMax:
		if len(v) == 1 {
			return x
		}
		best := value(fn, ahead, length)
		if math.IsNaN(best) || fn == api.WMin && best > x || fn == api.WMax && best < x {
			return x
		}
		return best
	case api.WLast:
		return x
	case api.WFirst:
		return v[0]
	case api.WRate:
		return value(api.WIncrease, v, length) / (float64(length) / 1000)
	case api.WDelta:
		return x - v[0]
	}
	if fn == api.WMag || fn == api.WTurn {
		return turned(fn, v)
	}
	return paired(fn, v)
}

// paired are the functions that hold each value against the one ahead.
func paired(fn int, v []float64) float64 {
	if len(v) == 1 {
		return 0
	}
	y, x := v[len(v)-2], v[len(v)-1]
	more := 0.0
	switch {
	case fn == api.WIncrease && y > x:
		more = x
	case fn == api.WIncrease:
		more = x - y
	case fn == api.WChanges && canonBits(x) != canonBits(y), fn == api.WResets && y > x:
		more = 1
	}
	return paired(fn, v[:len(v)-1]) + more
}

func turned(fn int, v []float64) float64 {
	if fn == api.WMag {
		return wave.Mag(wave.Sum(v...))
	}
	return float64(wave.Quarter(wave.Sum(v...)))
}

// TestP801AllStretches: every function of every stretch of samples that were made.
func TestP801AllStretches(t *testing.T) {
	for seed := range uint64(12) {
		s := made(seed, 12, -30)
		for from := -32; from <= s[len(s)-1].T+2; from++ {
			for to := from - 1; to <= s[len(s)-1].T+2; to++ {
				for _, fn := range functions() {
					want, has := told(fn, s, from, to)
					got, ok := window.Fn(fn, s, from, to)
					wantValue(t, fmt.Sprintf("%s of %v from %d to %d", window.Name(fn), s, from, to), got, ok, want, has && from < to)
				}
			}
		}
	}
}

// TestP801FnIsOfCut: what stands beside the stretch does not count.
func TestP801FnIsOfCut(t *testing.T) {
	for seed := range uint64(20) {
		s := made(seed, 60, -100)
		n := scatter(seed+7, 2, 300)
		from, to := n[0]-150, n[0]-150+n[1]
		for _, fn := range functions() {
			want, has := window.Fn(fn, window.Cut(s, from, to), from, to)
			got, ok := window.Fn(fn, s, from, to)
			wantValue(t, fmt.Sprintf("%s from %d to %d", window.Name(fn), from, to), got, ok, want, has)
		}
	}
}

// TestP801AtBounds: times up to 2 MaxTime either way, and differences that are told whole.
func TestP801AtBounds(t *testing.T) {
	s := []api.Sample{{T: -2 * last, V: 1}, {T: -2*last + 1, V: 2}, {T: 0, V: 4}, {T: 2*last - 1, V: 8}, {T: 2 * last, V: 16}}
	for _, c := range []struct {
		from, to int
		v        []float64
	}{
		{-2 * last, 2 * last, []float64{2, 4, 8, 16}},
		{-2 * last, 2*last - 1, []float64{2, 4, 8}},
		{-2*last + 1, 2*last - 1, []float64{4, 8}},
		{-1, 2 * last, []float64{4, 8, 16}},
		{-last, last, []float64{4}},
		{0, last, nil},
	} {
		for _, fn := range functions() {
			has := len(c.v) > 1 || len(c.v) == 1 && !needsTwo(fn)
			want := 0.0
			if has {
				want = value(fn, c.v, c.to-c.from)
			}
			got, ok := window.Fn(fn, s, c.from, c.to)
			wantValue(t, fmt.Sprintf("%s from %d to %d", window.Name(fn), c.from, c.to), got, ok, want, has)
		}
	}
}

// TestP801SumsAreRounded: sums held against steps that are rounded one by one; of some the number nearest to
// the true sum is another one.
func TestP801SumsAreRounded(t *testing.T) {
	tells := 0
	for seed := range uint64(20) {
		sum, exact := big.NewFloat(0), new(big.Float).SetPrec(2000)
		var v []float64
		for _, n := range scatter(seed, 40, 1<<62) {
			x := math.Ldexp(float64(n-1<<61), n%8-100)
			step, _ := new(big.Float).SetPrec(2000).Add(sum, big.NewFloat(x)).Float64()
			sum = big.NewFloat(step)
			exact.Add(exact, big.NewFloat(x))
			v = append(v, x)
		}
		want, _ := sum.Float64()
		if nearest, _ := exact.Float64(); nearest != want {
			tells++
		}
		wantOf(t, api.WSum, want, v...)
		wantOf(t, api.WAvg, want/40, v...)
	}
	if tells == 0 {
		t.Error("none of these sums tells")
	}
}

func wantRefused(t *testing.T, fn int, g api.Grid, length, offset int, want api.Errno) {
	t.Helper()
	c, err := window.Slide(fn, at(1, 2, 3), g, length, offset)
	if err != want || c.V != nil || c.Has != nil {
		t.Errorf("Slide of %d, %v, %d, %d: %v, %v instead of %v", fn, g, length, offset, c, err, want)
	}
}

// wantColumn asks for a column, bit by bit; a NaN stands where there is no value.
func wantColumn(t *testing.T, what string, c window.Column, err api.Errno, want ...float64) {
	t.Helper()
	if err != api.OK || len(c.V) != len(want) || len(c.Has) != len(want) {
		t.Errorf("%s: %v, %v instead of %v", what, c, err, want)
		return
	}
	for i, v := range want {
		wantValue(t, fmt.Sprintf("%s, point %d", what, i), c.V[i], c.Has[i], v, !math.IsNaN(v))
	}
}

func wantSlide(t *testing.T, fn int, s []api.Sample, g api.Grid, length, offset int, want ...float64) {
	t.Helper()
	c, err := window.Slide(fn, s, g, length, offset)
	wantColumn(t, fmt.Sprintf("%s of %v, %v, %d, %d", window.Name(fn), s, g, length, offset), c, err, want...)
}

func TestP802Slide(t *testing.T) {
	s := at(1, 2, 4, 8)
	g := api.Grid{Start: 0, End: 70, Step: 10}
	wantSlide(t, api.WSum, s, g, 20, 0, nan, 1, 3, 6, 12, 8, nan, nan)
	wantSlide(t, api.WSum, s, g, 10, 0, nan, 1, 2, 4, 8, nan, nan, nan)
	wantSlide(t, api.WSum, s, g, 9, 0, nan, 1, 2, 4, 8, nan, nan, nan)
	wantSlide(t, api.WSum, s, g, 11, 0, nan, 1, 3, 6, 12, 8, nan, nan)
	wantSlide(t, api.WSum, s, g, 1000, 0, nan, 1, 3, 7, 15, 15, 15, 15)
	wantSlide(t, api.WSum, s, g, 10, 20, nan, nan, nan, 1, 2, 4, 8, nan)
	wantSlide(t, api.WSum, s, g, 10, -20, 2, 4, 8, nan, nan, nan, nan, nan)
	wantSlide(t, api.WSum, s, g, 10, 1, nan, nan, 1, 2, 4, 8, nan, nan)
	wantSlide(t, api.WSum, s, g, 10, -1, nan, 1, 2, 4, 8, nan, nan, nan)
	wantSlide(t, api.WCount, s, api.Grid{Start: 5, End: 64, Step: 20}, 25, 0, nan, 2, 2)
	wantSlide(t, api.WDelta, s, g, 20, 0, nan, nan, 1, 2, 4, nan, nan, nan)
	wantSlide(t, api.WIncrease, at(1, 3, 2, 2), g, 30, 0, nan, nan, 2, 2+2, 2+0, 0, nan, nan)
	wantSlide(t, api.WRate, s, g, 20, 0, nan, nan, by(1, 0.02), by(2, 0.02), by(4, 0.02), nan, nan, nan)
	wantSlide(t, api.WLast, s, api.Grid{Start: 25, End: 25, Step: 1}, 6, 0, 2)
	wantSlide(t, api.WLast, s, api.Grid{Start: 25, End: 25, Step: 1}, 5, 0, nan)
	wantSlide(t, api.WSum, nil, api.Grid{Start: 0, End: 2, Step: 1}, 5, 0, nan, nan, nan)
	// Points that stand further apart than windows are long leave samples out.
	wantSlide(t, api.WCount, s, api.Grid{Start: 10, End: 40, Step: 30}, 5, 0, 1, 1)
	wantSlide(t, api.WCount, s, api.Grid{Start: 0, End: 60, Step: 60}, 5, 0, nan, nan)
}

// TestP802ValuesThatAreNaN: a value that is NaN is there, with the common NaN's bits.
func TestP802ValuesThatAreNaN(t *testing.T) {
	c, err := window.Slide(api.WLast, at(stale, minus, odd), api.Grid{Start: 0, End: 30, Step: 10}, 10, 0)
	if err != api.OK || len(c.V) != 4 {
		t.Fatalf("%v, %v", c, err)
	}
	for i, want := range []float64{0, nan, minus, nan} {
		wantValue(t, fmt.Sprintf("point %d", i), c.V[i], c.Has[i], want, i > 0)
	}
}

func TestP802Refused(t *testing.T) {
	g := api.Grid{Start: 0, End: 40, Step: 10}
	for _, fn := range strangers() {
		wantRefused(t, fn, g, 10, 0, api.ErrArg)
	}
	for _, length := range []int{math.MinInt, -last, -1, 0, last + 1, 2 * last, math.MaxInt} {
		wantRefused(t, api.WSum, g, length, 0, api.ErrArg)
	}
	for _, offset := range []int{math.MinInt, -2 * last, -last - 1, last + 1, 2 * last, math.MaxInt} {
		wantRefused(t, api.WSum, g, 10, offset, api.ErrArg)
	}
	for _, bad := range []api.Grid{{}, {Start: 1, End: 0, Step: 1}, {Step: -1}, {Step: last + 1}, {Start: -last - 1, Step: last}, {End: last + 1, Step: last}, {Start: math.MinInt, End: math.MaxInt, Step: math.MaxInt}} {
		wantRefused(t, api.WSum, bad, 10, 0, api.ErrArg)
	}
	// Of several errors the grid's comes first.
	long := api.Grid{Start: 0, End: api.MaxSteps, Step: 1}
	wantRefused(t, api.WSum, long, 10, 0, api.ErrLimit)
	wantRefused(t, 0, long, 10, 0, api.ErrLimit)
	wantRefused(t, api.WSum, long, 0, 0, api.ErrLimit)
	wantRefused(t, api.WSum, long, 10, last+1, api.ErrLimit)
	wantRefused(t, 0, api.Grid{}, 0, last+1, api.ErrArg)
}

func TestP802Bounds(t *testing.T) {
	g := api.Grid{Start: 0, End: api.MaxSteps - 1, Step: 1}
	c, err := window.Slide(api.WCount, at(1, 2, 3), g, last, 0)
	if err != api.OK || len(c.V) != api.MaxSteps || c.V[9] != 0 || c.V[10] != 1 || c.V[api.MaxSteps-1] != 3 || c.Has[9] || !c.Has[10] {
		t.Errorf("%d points, %v", len(c.V), err)
	}
	s := []api.Sample{{T: -last, V: 1}, {T: 0, V: 2}, {T: last, V: 4}}
	g = api.Grid{Start: -last, End: last, Step: last}
	wantSlide(t, api.WSum, s, g, 1, 0, 1, 2, 4)
	wantSlide(t, api.WSum, s, g, last, 0, 1, 2, 4)
	wantSlide(t, api.WSum, s, g, last, last, nan, 1, 2)
	wantSlide(t, api.WSum, s, g, last, -last, 2, 4, nan)
	wantSlide(t, api.WRate, s, api.Grid{Start: last, End: last, Step: 1}, last, 1, nan)
	s = append(s, api.Sample{T: last + 1, V: 7}, api.Sample{T: 2 * last, V: 8})
	wantSlide(t, api.WRate, s, api.Grid{Start: last, End: last, Step: 1}, last, -last, by(1, by(1<<50, 1000)))
	// A window may begin as low as 3 MaxTime below 0.
	s = []api.Sample{{T: -3 * last, V: 1}, {T: -3*last + 1, V: 3}, {T: -2 * last, V: 7}}
	wantSlide(t, api.WSum, s, api.Grid{Start: -last, End: -last, Step: 1}, last, last, 10)
	wantSlide(t, api.WRate, s, api.Grid{Start: -last, End: -last, Step: 1}, last, last, by(4, by(1<<50, 1000)))
}

// TestP802SlideIsFn: at each point of grids, lengths and offsets that were made.
func TestP802SlideIsFn(t *testing.T) {
	for seed := range uint64(200) {
		n := scatter(seed, 5, 90)
		s := made(seed, n[0]%40, -90)
		g := api.Grid{Start: n[1] - 100, End: n[1] - 100 + 3*n[2], Step: n[3]%37 + 1}
		length, offset := n[4]+1, n[3]-45
		for _, fn := range functions() {
			c, err := window.Slide(fn, s, g, length, offset)
			if err != api.OK || len(c.V) != stamp.Points(g) || len(c.Has) != len(c.V) {
				t.Fatalf("%v: %v, %v", g, c, err)
			}
			for i := range c.V {
				at, _ := stamp.At(g, i)
				want, has := window.Fn(fn, s, at-offset-length, at-offset)
				wantValue(t, fmt.Sprintf("%s of %v at %d less %d, back %d", window.Name(fn), s, at, offset, length), c.V[i], c.Has[i], want, has)
				want, has = told(fn, s, at-offset-length, at-offset)
				wantValue(t, fmt.Sprintf("%s, as told, of %v at %d less %d, back %d", window.Name(fn), s, at, offset, length), c.V[i], c.Has[i], want, has)
			}
		}
	}
}

func TestP802Same(t *testing.T) {
	type column = window.Column
	v, has := []float64{1, nan, minus}, []bool{true, true, false}
	a := column{V: v, Has: has}
	for _, b := range []column{a, {V: []float64{1, stale, minus}, Has: has}, {V: []float64{1, odd, minus}, Has: []bool{true, true, false}}} {
		if !window.Same(a, b) || !window.Same(b, a) {
			t.Errorf("not the same: %v, %v", a, b)
		}
	}
	for _, b := range []column{
		{}, {V: v}, {Has: has},
		{V: v[:2], Has: has}, {V: v, Has: has[:2]}, {V: v[:2], Has: has[:2]},
		{V: append([]float64{}, 1, nan, minus, 0), Has: has},
		{V: v, Has: []bool{true, true, false, false}},
		{V: []float64{1, nan, 0}, Has: has},
		{V: []float64{2, nan, minus}, Has: has},
		{V: []float64{1, 5, minus}, Has: has},
		{V: v, Has: []bool{false, true, false}},
		{V: v, Has: []bool{true, false, false}},
		{V: v, Has: []bool{true, true, true}},
	} {
		if window.Same(a, b) || window.Same(b, a) {
			t.Errorf("the same: %v, %v", a, b)
		}
	}
	if !window.Same(column{}, column{V: []float64{}, Has: []bool{}}) {
		t.Error("no list and an empty one are not the same")
	}
	if !window.Same(column{V: v, Has: has[:1]}, column{V: slices.Clone(v), Has: has[:1]}) || !window.Same(column{V: v[:1], Has: has}, column{V: slices.Clone(v[:1]), Has: has}) {
		t.Error("columns whose V and Has differ in length are not the same as themselves")
	}
}

// held is all of s, its spare room too, to be held against what it is later.
func held(s []api.Sample) []api.Sample {
	return slices.Clone(s[:cap(s)])
}

func wantUntouched(t *testing.T, what string, s, was []api.Sample) {
	t.Helper()
	for i, x := range s[:cap(s)] {
		if x.T != was[i].T || math.Float64bits(x.V) != math.Float64bits(was[i].V) {
			t.Errorf("%s changed place %d: %v instead of %v", what, i, x, was[i])
		}
	}
}

// TestP2WhatIsHandedInStays: samples are not changed, nor their spare room; what is answered is new memory.
func TestP2WhatIsHandedInStays(t *testing.T) {
	s := slices.Grow(at(stale, minus, 3, odd, 5, 6, 7), 9)[:5]
	was := held(s)
	for _, fn := range functions() {
		window.Fn(fn, s, 10, 40)
		wantUntouched(t, window.Name(fn), s, was)
		c, _ := window.Slide(fn, s, api.Grid{Start: 0, End: 60, Step: 5}, 20, 0)
		for i := range c.V {
			c.V[i], c.Has[i] = 99, true
		}
		_, _ = append(c.V, 98), append(c.Has, true)
		wantUntouched(t, "Slide by "+window.Name(fn), s, was)
	}
	for _, c := range [][2]int{{0, 60}, {10, 30}, {20, 20}, {60, 90}, {0, 5}} {
		l := window.Cut(s, c[0], c[1])
		for i := range l {
			l[i] = api.Sample{T: 99, V: 99}
		}
		l = append(l, api.Sample{T: 98, V: 98})
		for i := range l[:cap(l)] {
			l[:cap(l)][i].V = 97
		}
		wantUntouched(t, "Cut", s, was)
	}
}

func TestP2SlidesShareNothing(t *testing.T) {
	s, g := at(1, 2, 3), api.Grid{Start: 0, End: 40, Step: 10}
	a, _ := window.Slide(api.WSum, s, g, 20, 0)
	b, _ := window.Slide(api.WSum, s, g, 20, 0)
	for i := range a.V {
		a.V[i], a.Has[i] = 99, !a.Has[i]
	}
	wantColumn(t, "a second column", b, api.OK, nan, 1, 3, 5, 3)
	c := slices.Clone(a.V)
	window.Same(a, b)
	if !slices.Equal(a.V, c) {
		t.Error("Same changed a column")
	}
}

// TestP3TheSameAgain: nothing is kept from call to call.
func TestP3TheSameAgain(t *testing.T) {
	s, g := at(1, 3, 2, stale), api.Grid{Start: 0, End: 30, Step: 10}
	for range 3 {
		wantOf(t, api.WIncrease, 2+2, 1, 3, 2)
		wantSlide(t, api.WMax, s, g, 20, 0, nan, 1, 3, 3)
		wantRefused(t, 0, g, 20, 0, api.ErrArg)
		wantCut(t, s, 10, 20, s[1])
	}
}

// TestP8TimesThatDoNotRise: no more is promised than an end without a panic, and that nothing is changed.
func TestP8TimesThatDoNotRise(t *testing.T) {
	for seed := range uint64(60) {
		var s []api.Sample
		for i, n := range scatter(seed, 20, 60) {
			s = append(s, api.Sample{T: n - 30, V: float64(i)})
		}
		if seed%3 == 0 {
			s[4].T, s[9].T, s[14].T = math.MaxInt, math.MinInt, math.MaxInt
		}
		was := held(s)
		for _, fn := range functions() {
			for from := -35; from < 35; from += 3 {
				window.Fn(fn, s, from, from+20)
				window.Cut(s, from, from+20)
			}
			window.Fn(fn, s, math.MinInt, math.MaxInt)
			if c, err := window.Slide(fn, s, api.Grid{Start: -40, End: 40, Step: 7}, 15, 3); err != api.OK || len(c.V) != 12 || len(c.Has) != 12 {
				t.Errorf("%v, %v", c, err)
			}
		}
		wantUntouched(t, "times that don't rise", s, was)
	}
}
