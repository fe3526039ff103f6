package fval_test

import (
	"fmt"
	"math"
	"math/big"
	"slices"
	"strings"
	"testing"

	"isobar/api"
	"isobar/fval"
)

const (
	nanBits   = 0x7FF8000000000001
	staleBits = 0x7FF0000000000002
)

var (
	inf   = math.Inf(1)
	minus = math.Copysign(0, -1)
	least = math.SmallestNonzeroFloat64
)

// nans are NaNs of several bits: quiet and not, of either sign, and the stale one.
func nans() []float64 {
	var l []float64
	for _, b := range []uint64{nanBits, staleBits, 0x7FF8000000000000, 0x7FF8000000000002, 0x7FF0000000000001, 0x7FF0000000000003,
		0x7FFFFFFFFFFFFFFF, 0xFFF8000000000000, 0xFFF8000000000001, 0xFFF0000000000002, 0xFFFFFFFFFFFFFFFF} {
		l = append(l, math.Float64frombits(b))
	}
	return l
}

// numbers are values that are no NaN, in their order.
func numbers() []float64 {
	return []float64{-inf, -math.MaxFloat64, -2.5, -1, -least, minus, 0, least, 0.1, 1, math.Nextafter(1, 2), 2, 1e300, math.MaxFloat64, inf}
}

func values() []float64 {
	return append(nans(), numbers()...)
}

func show(l ...float64) string {
	var s []string
	for _, v := range l {
		s = append(s, fmt.Sprintf("%v (%X)", v, math.Float64bits(v)))
	}
	return strings.Join(s, ", ")
}

// want holds an answer against what is asked, bit by bit.
func want(t *testing.T, what string, got, want float64) {
	t.Helper()
	if math.Float64bits(got) != math.Float64bits(want) {
		t.Errorf("%s: %s instead of %s", what, show(got), show(want))
	}
}

// scatter answers bits that are spread over all patterns, the same ones in each run.
func scatter(n int) []uint64 {
	l, x := make([]uint64, n), uint64(1)
	for i := range l {
		x = x*6364136223846793005 + 1442695040888963407
		l[i] = x ^ x>>29
	}
	return l
}

func TestP101CanonAndBits(t *testing.T) {
	for _, v := range nans() {
		want(t, "Canon of "+show(v), fval.Canon(v), math.Float64frombits(nanBits))
		if b := fval.Bits(v); b != nanBits {
			t.Errorf("Bits of %s: %X", show(v), b)
		}
	}
	for _, v := range numbers() {
		want(t, "Canon of "+show(v), fval.Canon(v), v)
		if b := fval.Bits(v); b != math.Float64bits(v) {
			t.Errorf("Bits of %s: %X", show(v), b)
		}
	}
	for v, b := range map[float64]uint64{0: 0, 1: 0x3FF0000000000000, -2: 0xC000000000000000, inf: 0x7FF0000000000000, -inf: 0xFFF0000000000000} {
		if fval.Bits(v) != b {
			t.Errorf("Bits of %v: %X", v, fval.Bits(v))
		}
	}
	if fval.Bits(minus) != 1<<63 {
		t.Errorf("Bits of -0: %X", fval.Bits(minus))
	}
}

func TestP101Stale(t *testing.T) {
	if b := math.Float64bits(fval.Stale()); b != staleBits {
		t.Errorf("Stale: %X", b)
	}
	for _, v := range values() {
		if got := fval.IsStale(v); got != (math.Float64bits(v) == staleBits) {
			t.Errorf("IsStale of %s: %v", show(v), got)
		}
	}
	if fval.IsStale(fval.Canon(fval.Stale())) {
		t.Error("Canon of Stale is stale")
	}
}

func TestP101Same(t *testing.T) {
	for _, a := range nans() {
		for _, b := range nans() {
			if !fval.Same(a, b) {
				t.Errorf("not the same: %s", show(a, b))
			}
		}
		for _, b := range numbers() {
			if fval.Same(a, b) || fval.Same(b, a) {
				t.Errorf("the same: %s", show(a, b))
			}
		}
	}
	for i, a := range numbers() {
		for k, b := range numbers() {
			if fval.Same(a, b) != (i == k) {
				t.Errorf("Same of %s: %v", show(a, b), i != k)
			}
		}
	}
}

func TestP102Before(t *testing.T) {
	for i, a := range numbers() {
		for k, b := range numbers() {
			if fval.Before(a, b) != (i < k) {
				t.Errorf("Before of %s: %v", show(a, b), i >= k)
			}
		}
		for _, b := range nans() {
			if fval.Before(a, b) || !fval.Before(b, a) {
				t.Errorf("NaN is not first: %s", show(a, b))
			}
		}
	}
	for _, a := range nans() {
		for _, b := range nans() {
			if fval.Before(a, b) {
				t.Errorf("Before of %s", show(a, b))
			}
		}
	}
}

func TestP102BeforeIsAnOrder(t *testing.T) {
	var l []float64
	for _, b := range scatter(300) {
		l = append(l, math.Float64frombits(b))
	}
	l = append(l, values()...)
	for _, a := range l {
		for _, b := range l {
			n := 0
			for _, holds := range []bool{fval.Before(a, b), fval.Before(b, a), fval.Same(a, b)} {
				if holds {
					n++
				}
			}
			if n != 1 {
				t.Fatalf("%d of ahead, behind and the same hold of %s", n, show(a, b))
			}
		}
	}
	slices.SortFunc(l, func(a, b float64) int {
		switch {
		case fval.Before(a, b):
			return -1
		case fval.Before(b, a):
			return 1
		}
		return 0
	})
	for i := range l {
		for k := i; k < len(l); k++ {
			if fval.Before(l[k], l[i]) {
				t.Fatalf("%s stand as if the first were ahead", show(l[i], l[k]))
			}
		}
	}
}

func TestP102Sum(t *testing.T) {
	nan := math.Float64frombits(nanBits)
	for _, c := range []struct {
		l    []float64
		want float64
	}{
		{nil, 0},
		{[]float64{}, 0},
		{[]float64{7.5}, 7.5},
		{[]float64{minus}, minus},
		{[]float64{minus, minus}, minus},
		{[]float64{minus, 0}, 0},
		{[]float64{1, -1}, 0},
		{[]float64{1, 2, 3.5}, 6.5},
		{[]float64{1e16, 1, -1e16}, 0},
		{[]float64{1e16, -1e16, 1}, 1},
		{[]float64{1, 1e16, -1e16}, 0},
		{[]float64{1e16, 1, 1}, 1e16},
		{[]float64{1, 1, 1e16}, 1e16 + 2},
		{[]float64{0.1, 0.2, 0.3}, 0.6000000000000001},
		{[]float64{0.3, 0.2, 0.1}, 0.6},
		{[]float64{math.MaxFloat64, math.MaxFloat64, -inf}, nan},
		{[]float64{math.MaxFloat64, math.MaxFloat64, -math.MaxFloat64}, inf},
		{[]float64{inf, 1}, inf},
		{[]float64{inf, -inf, 1}, nan},
		{[]float64{fval.Stale(), 1}, nan},
		{[]float64{1, 2, fval.Stale()}, nan},
	} {
		want(t, "Sum of "+show(c.l...), fval.Sum(c.l...), c.want)
	}
	for _, v := range nans() {
		want(t, "Sum of one", fval.Sum(v), nan)
	}
}

func TestP102SumChangesNothing(t *testing.T) {
	l := []float64{1, fval.Stale(), minus, 4}
	held := slices.Clone(l)
	fval.Sum(l[:2]...)
	for i := range l {
		want(t, "what Sum was handed", l[i], held[i])
	}
}

func TestP103OpArithmetic(t *testing.T) {
	nan := math.Float64frombits(nanBits)
	for _, c := range []struct {
		op         int
		a, b, want float64
	}{
		{api.Add, 1, 2, 3},
		{api.Add, minus, minus, minus},
		{api.Add, minus, 0, 0},
		{api.Add, 0.1, 0.2, 0.30000000000000004},
		{api.Add, math.MaxFloat64, math.MaxFloat64, inf},
		{api.Add, inf, -inf, nan},
		{api.Sub, 1, 2, -1},
		{api.Sub, 1, 1, 0},
		{api.Sub, minus, 0, minus},
		{api.Sub, inf, inf, nan},
		{api.Mul, 3, -2, -6},
		{api.Mul, 0, -1, minus},
		{api.Mul, 0, inf, nan},
		{api.Mul, least, 0.5, 0},
		{api.Mul, 1e200, 1e200, inf},
		{api.Div, 1, 4, 0.25},
		{api.Div, 1, 3, 0.3333333333333333},
		{api.Div, 1, 0, inf},
		{api.Div, 1, minus, -inf},
		{api.Div, 0, 0, nan},
		{api.Div, inf, inf, nan},
		{api.Div, -1, inf, minus},
	} {
		v, ok := fval.Op(c.op, c.a, c.b)
		if !ok {
			t.Errorf("Op %d is not told", c.op)
		}
		want(t, fmt.Sprintf("Op %d of %s", c.op, show(c.a, c.b)), v, c.want)
	}
	for op := api.Add; op <= api.Div; op++ {
		for _, v := range nans() {
			for _, pair := range [][2]float64{{v, 1}, {1, v}, {v, v}} {
				got, ok := fval.Op(op, pair[0], pair[1])
				want(t, fmt.Sprintf("Op %d of a NaN (%v)", op, ok), got, nan)
			}
		}
	}
}

// TestP103OpIsRoundedByItself: a product in a sum is rounded ahead of the sum, also where both are written in line.
func TestP103OpIsRoundedByItself(t *testing.T) {
	a := 1 + 1/float64(1<<30)
	square := 1 + 1/float64(1<<29)
	product, _ := fval.Op(api.Mul, a, a)
	difference, _ := fval.Op(api.Sub, product, square)
	want(t, "a product less what it is rounded to", difference, 0)
}

func TestP103Comparisons(t *testing.T) {
	type row struct {
		a, b float64
		of   [6]bool // Eq, Ne, Gt, Lt, Ge, Le
	}
	less := [6]bool{false, true, false, true, false, true}
	more := [6]bool{false, true, true, false, true, false}
	even := [6]bool{true, false, false, false, true, true}
	none := [6]bool{false, true, false, false, false, false}
	rows := []row{
		{1, 2, less}, {2, 1, more}, {2, 2, even}, {0, minus, even}, {minus, 0, even}, {-1, least, less},
		{inf, inf, even}, {-inf, -inf, even}, {-inf, inf, less}, {inf, math.MaxFloat64, more},
	}
	for _, v := range nans() {
		rows = append(rows, row{v, 1, none}, row{1, v, none}, row{v, v, none}, row{v, inf, none})
	}
	for _, r := range rows {
		for i, holds := range r.of {
			op, number := api.Eq+i, 0.0
			if holds {
				number = 1
			}
			if fval.Holds(op, r.a, r.b) != holds {
				t.Errorf("Holds %d of %s: %v", op, show(r.a, r.b), !holds)
			}
			v, ok := fval.Op(op, r.a, r.b)
			if !ok {
				t.Errorf("Op %d is not told", op)
			}
			want(t, fmt.Sprintf("Op %d of %s", op, show(r.a, r.b)), v, number)
		}
	}
}

func TestP103NoSuchOperator(t *testing.T) {
	for _, op := range []int{math.MinInt, -1, 0, api.And, api.Or, api.Less, api.Deft, 15, math.MaxInt} {
		for _, a := range values() {
			v, ok := fval.Op(op, a, a)
			if ok {
				t.Errorf("Op %d is told", op)
			}
			want(t, fmt.Sprintf("Op %d", op), v, 0)
			if fval.Holds(op, a, a) || fval.Holds(op, a, 1) {
				t.Errorf("Holds %d", op)
			}
		}
	}
	for op := api.Add; op <= api.Div; op++ {
		if fval.Holds(op, 1, 1) || fval.Holds(op, 1, 2) || fval.Holds(op, 2, 1) {
			t.Errorf("Holds %d", op)
		}
	}
}

func TestP103Fn(t *testing.T) {
	nan := math.Float64frombits(nanBits)
	for _, c := range []struct {
		fn           int
		v, arg, want float64
	}{
		{api.FAbs, -3, 0, 3},
		{api.FAbs, 3, 0, 3},
		{api.FAbs, minus, 0, 0},
		{api.FAbs, 0, 0, 0},
		{api.FAbs, -inf, 0, inf},
		{api.FNeg, 2, 0, -2},
		{api.FNeg, -2, 0, 2},
		{api.FNeg, 0, 0, minus},
		{api.FNeg, minus, 0, 0},
		{api.FNeg, inf, 0, -inf},
		{api.FSgn, -7, 0, -1},
		{api.FSgn, 0.5, 0, 1},
		{api.FSgn, -least, 0, -1},
		{api.FSgn, inf, 0, 1},
		{api.FSgn, -inf, 0, -1},
		{api.FSgn, 0, 0, 0},
		{api.FSgn, minus, 0, minus},
		{api.FMin, 1, 3, 3},
		{api.FMin, 5, 3, 5},
		{api.FMin, 3, 3, 3},
		{api.FMin, -inf, -1, -1},
		{api.FMin, 1, inf, inf},
		{api.FMin, minus, 0, minus},
		{api.FMin, 0, minus, 0},
		{api.FMax, 1, 3, 1},
		{api.FMax, 5, 3, 3},
		{api.FMax, 3, 3, 3},
		{api.FMax, inf, -1, -1},
		{api.FMax, 1, -inf, -inf},
		{api.FMax, minus, 0, minus},
		{api.FMax, 0, minus, 0},
		{api.FAbs, -3, nan, 3},
		{api.FNeg, 2, nan, -2},
		{api.FSgn, -7, nan, -1},
		{api.FAbs, -3, 9, 3},
		{api.FNeg, 2, 9, -2},
		{api.FSgn, -7, 9, -1},
	} {
		v, ok := fval.Fn(c.fn, c.v, c.arg)
		if !ok {
			t.Errorf("Fn %d is not told", c.fn)
		}
		want(t, fmt.Sprintf("Fn %d of %s", c.fn, show(c.v, c.arg)), v, c.want)
	}
	for fn := api.FAbs; fn <= api.FMax; fn++ {
		for _, v := range nans() {
			for _, arg := range values() {
				got, ok := fval.Fn(fn, v, arg)
				want(t, fmt.Sprintf("Fn %d of %s (%v)", fn, show(v, arg), ok), got, nan)
			}
		}
	}
	for _, fn := range []int{api.FMin, api.FMax} {
		for _, arg := range nans() {
			for _, v := range values() {
				got, ok := fval.Fn(fn, v, arg)
				want(t, fmt.Sprintf("Fn %d of %s (%v)", fn, show(v, arg), ok), got, nan)
			}
		}
	}
}

func TestP103NoSuchFunction(t *testing.T) {
	for _, fn := range []int{math.MinInt, -1, 0, 6, 7, math.MaxInt} {
		for _, a := range values() {
			v, ok := fval.Fn(fn, a, a)
			if ok {
				t.Errorf("Fn %d is told", fn)
			}
			want(t, fmt.Sprintf("Fn %d", fn), v, 0)
		}
	}
}

func TestP104Text(t *testing.T) {
	for _, v := range nans() {
		if s := fval.Text(v); s != "NaN" {
			t.Errorf("%s: %s", show(v), s)
		}
	}
	for _, c := range []struct {
		v    float64
		want string
	}{
		{inf, "+Inf"}, {-inf, "-Inf"}, {0, "0"}, {minus, "-0"}, {1, "1"}, {-1.5, "-1.5"}, {0.1, "0.1"}, {100000, "100000"},
		{1e20, "1e+20"}, {123456789, "1.23456789e+08"}, {1e21, "1e+21"}, {0.0001, "0.0001"}, {0.00001, "1e-05"},
		{1.0 / 3, "0.3333333333333333"}, {least, "5e-324"}, {math.MaxFloat64, "1.7976931348623157e+308"},
	} {
		if s := fval.Text(c.v); s != c.want {
			t.Errorf("%s: %s instead of %s", show(c.v), s, c.want)
		}
	}
}

func TestP104TextIsReadAgain(t *testing.T) {
	for _, b := range scatter(2000) {
		v := fval.Canon(math.Float64frombits(b &^ (1 << 63)))
		got, ok := fval.Parse(strings.TrimPrefix(fval.Text(v), "+"))
		if !ok {
			t.Errorf("%s is not read", fval.Text(v))
		}
		want(t, fval.Text(v), got, v)
	}
}

func TestP104Parse(t *testing.T) {
	for s, v := range map[string]float64{
		"0": 0, "1": 1, "007": 7, "12.5": 12.5, "5.": 5, ".5": 0.5, "0.0": 0, "00.50": 0.5, "1e3": 1000, "1E3": 1000, "1e+3": 1000, "1e-3": 0.001, "1E-2": 0.01, "1E+2": 100,
		"5.e1": 50, ".5e1": 5, "2.5e007": 2.5e7, "0e0": 0, "0e999": 0, "1e0": 1, "0.1": 0.1, "9007199254740993": 9007199254740992, "9007199254740995": 9007199254740996,
		"1.7976931348623157e308": math.MaxFloat64, "1.7976931348623158e308": math.MaxFloat64, "1.7976931348623159e308": inf, "1e309": inf, "1e999": inf,
		"1e99999999999999999999": inf, "1e-999": 0, "1e-99999999999999999999": 0, "5e-324": least, "2e-324": 0, "3e-324": least, "Inf": inf, "NaN": math.Float64frombits(nanBits),
	} {
		got, ok := fval.Parse(s)
		if !ok {
			t.Errorf("%q is not read", s)
		}
		want(t, s, got, v)
	}
}

func TestP104ParseIsNearest(t *testing.T) {
	for i, b := range scatter(1000) {
		s := fmt.Sprintf("%d.%de%d", b>>20, b&0xFFFFF, i%600-300)
		exact, _, err := big.ParseFloat(s, 10, 3000, big.ToNearestEven)
		if err != nil {
			t.Fatal(err)
		}
		nearest, _ := exact.Float64()
		got, ok := fval.Parse(s)
		if !ok {
			t.Errorf("%q is not read", s)
		}
		want(t, s, got, nearest)
	}
}

func TestP104ParseRefuses(t *testing.T) {
	for _, s := range []string{
		"", ".", "e", "E5", "e1", ".e1", "1e", "1E", "1e+", "1e-", "1.e", ".5e", "1e+-3", "1e3.5", "1e3e3", "1e 3", "1ee3",
		"-1", "+1", "-0", "+0", "-.5", "+Inf", "-Inf", "-NaN", "+NaN", "inf", "INF", "nan", "NAN", "Nan", "Infinity", "infinity", "Inf1", "1Inf", "NaN ", " NaN", "In", "Na",
		"1.2.3", "1..2", "..", "1,5", "1_0", "1_000.5", "0x1", "0x1p4", "0X1", "0b1", "0o7", "1p4", "1f", "1.5s", "5m",
		" 1", "1 ", "1\n", "1\x00", "\x00", "١", "1٠", "½", "\xff", "1\xff", "one", "1/2", "(1)",
	} {
		v, ok := fval.Parse(s)
		if ok {
			t.Errorf("%q is read", s)
		}
		want(t, s, v, 0)
	}
}

func TestP104ParseIsBoundedByBytes(t *testing.T) {
	for _, c := range []struct {
		s    string
		want float64
	}{
		{strings.Repeat("0", 63) + "7", 7},
		{"1" + strings.Repeat("0", 63), 1e63},
		{"0." + strings.Repeat("0", 61) + "3", 3e-62},
		{strings.Repeat("9", 64), 1e64},
		{"1e" + strings.Repeat("9", 62), inf},
		{"1e" + strings.Repeat("0", 61) + "2", 100},
		{"1." + strings.Repeat("0", 62), 1},
	} {
		if len(c.s) != 64 {
			t.Fatalf("%q has %d bytes", c.s, len(c.s))
		}
		v, ok := fval.Parse(c.s)
		if !ok {
			t.Errorf("%q is not read", c.s)
		}
		want(t, c.s, v, c.want)
	}
	for _, s := range []string{strings.Repeat("0", 65), "1" + strings.Repeat("0", 64), "0." + strings.Repeat("0", 62) + "3", "1e" + strings.Repeat("0", 62) + "2",
		strings.Repeat("7", 1000), strings.Repeat("x", 65)} {
		v, ok := fval.Parse(s)
		if ok {
			t.Errorf("%q of %d bytes is read", s, len(s))
		}
		want(t, s, v, 0)
	}
}

// TestP3TheSameAgain: nothing is kept from call to call.
func TestP3TheSameAgain(t *testing.T) {
	for range 2 {
		a, _ := fval.Parse("2.5")
		b, _ := fval.Op(api.Div, a, 2)
		want(t, "again", fval.Sum(a, b), 3.75)
	}
}
