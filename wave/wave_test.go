package wave_test

import (
	"fmt"
	"math"
	"math/big"
	"slices"
	"testing"

	"isobar/wave"
)

var (
	inf   = math.Inf(1)
	minus = math.Copysign(0, -1)
	nan   = math.Float64frombits(0x7FF8000000000001)
	stale = math.Float64frombits(0x7FF0000000000002)
	least = math.SmallestNonzeroFloat64
	most  = math.MaxFloat64
)

// nans are NaNs of several bits: quiet and not, of either sign, and the stale one.
func nans() []float64 {
	l := []float64{nan, stale}
	for _, b := range []uint64{0x7FF8000000000000, 0x7FF0000000000001, 0x7FFFFFFFFFFFFFFF, 0xFFF8000000000000, 0xFFF8000000000001, 0xFFF0000000000002} {
		l = append(l, math.Float64frombits(b))
	}
	return l
}

// numbers are values that are no NaN.
func numbers() []float64 {
	return []float64{-inf, -most, -2.5, -1, -least, minus, 0, least, 0.1, 1, math.Nextafter(1, 2), 3, 1e16, most, inf}
}

func values() []float64 {
	return append(nans(), numbers()...)
}

// points are all that two of l make.
func points(l []float64) []complex128 {
	var all []complex128
	for _, r := range l {
		for _, i := range l {
			all = append(all, complex(r, i))
		}
	}
	return all
}

// scatter answers numbers spread over several sizes and signs, the same ones in each run.
func scatter(n int) []float64 {
	l, x := make([]float64, n), uint64(1)
	for i := range l {
		x = x*6364136223846793005 + 1442695040888963407
		l[i] = math.Ldexp(float64(int64(x)), int(x>>59)-70)
	}
	return l
}

func show(z complex128) string {
	return fmt.Sprintf("%v (%X, %X)", z, math.Float64bits(real(z)), math.Float64bits(imag(z)))
}

// canonBits are v's bits, those of the common NaN in place of all: written here apart from the program.
func canonBits(v float64) uint64 {
	if math.IsNaN(v) {
		return math.Float64bits(nan)
	}
	return math.Float64bits(v)
}

// want holds an answer against what is asked, bit by bit, and asks for the common NaN.
func want(t *testing.T, what string, got, want complex128) {
	t.Helper()
	if math.Float64bits(real(got)) != canonBits(real(want)) || math.Float64bits(imag(got)) != canonBits(imag(want)) {
		t.Errorf("%s: %s instead of %s", what, show(got), show(want))
	}
}

func wantNumber(t *testing.T, what string, got, want float64) {
	t.Helper()
	if math.Float64bits(got) != canonBits(want) {
		t.Errorf("%s: %v (%X) instead of %v", what, got, math.Float64bits(got), want)
	}
}

func wantTurn(t *testing.T, z complex128, quarters int, answer complex128) {
	t.Helper()
	want(t, fmt.Sprintf("Turn of %s by %d", show(z), quarters), wave.Turn(z, quarters), answer)
}

func wantSum(t *testing.T, answer complex128, l ...float64) {
	t.Helper()
	want(t, fmt.Sprintf("Sum of %v", l), wave.Sum(l...), answer)
}

func TestP701Turn(t *testing.T) {
	for _, c := range []struct {
		z        complex128
		quarters int
		want     complex128
	}{
		{complex(3, 4), 0, complex(3, 4)},
		{complex(3, 4), 1, complex(-4, 3)},
		{complex(3, 4), 2, complex(-3, -4)},
		{complex(3, 4), 3, complex(4, -3)},
		{complex(3, 4), 4, complex(3, 4)},
		{complex(3, 4), 5, complex(-4, 3)},
		{complex(3, 4), -1, complex(4, -3)},
		{complex(3, 4), -2, complex(-3, -4)},
		{complex(3, 4), -3, complex(-4, 3)},
		{complex(3, 4), -4, complex(3, 4)},
		{complex(3, 4), -5, complex(4, -3)},
		{complex(1, 0), 1, complex(minus, 1)},
		{complex(1, minus), 1, complex(0, 1)},
		{complex(0, 0), 0, complex(0, 0)},
		{complex(0, 0), 1, complex(minus, 0)},
		{complex(0, 0), 2, complex(minus, minus)},
		{complex(0, 0), 3, complex(0, minus)},
		{complex(minus, minus), 0, complex(minus, minus)},
		{complex(minus, minus), 1, complex(0, minus)},
		{complex(minus, minus), 2, complex(0, 0)},
		{complex(minus, minus), 3, complex(minus, 0)},
		{complex(inf, -1), 1, complex(1, inf)},
		{complex(inf, -1), 2, complex(-inf, 1)},
		{complex(inf, 0), 1, complex(minus, inf)},
		{complex(-inf, inf), 3, complex(inf, inf)},
		{complex(nan, 2), 1, complex(-2, nan)},
		{complex(2, stale), 1, complex(nan, 2)},
		{complex(stale, inf), 2, complex(nan, -inf)},
		{complex(stale, -least), 0, complex(nan, -least)},
	} {
		wantTurn(t, c.z, c.quarters, c.want)
	}
}

// turned is z turned by one quarter, so many times: the document's words, one by one.
func turned(z complex128, quarters int) complex128 {
	for range quarters {
		z = complex(math.Copysign(imag(z), -1*math.Copysign(1, imag(z))), real(z))
	}
	return z
}

func TestP701TurnByAnyNumber(t *testing.T) {
	for _, n := range []int{0, 1, 2, 3, 4, 5, 6, 7, 1 << 20, 1<<20 + 1, -1, -2, -3, -4, -5, -6, -7, 1 << 31, -1<<31 - 1,
		math.MaxInt, math.MaxInt - 1, math.MaxInt - 2, math.MaxInt - 3, math.MinInt, math.MinInt + 1, math.MinInt + 2, math.MinInt + 3} {
		part := new(big.Int).Mod(big.NewInt(int64(n)), big.NewInt(4))
		for _, z := range points(values()) {
			wantTurn(t, z, n, turned(z, int(part.Int64())))
		}
	}
}

func TestP701TurnIsUndone(t *testing.T) {
	for _, z := range points(values()) {
		for n := -9; n <= 9; n++ {
			want(t, fmt.Sprintf("%s by %d and back", show(z), n), wave.Turn(wave.Turn(z, n), -n), z)
			want(t, fmt.Sprintf("%s by %d and one more", show(z), n), wave.Turn(wave.Turn(z, n), 1), wave.Turn(z, n+1))
		}
	}
}

func TestP701Plus(t *testing.T) {
	for _, c := range [][3]complex128{
		{complex(1, 2), complex(10, 20), complex(11, 22)},
		{complex(1, 1), complex(2, -3), complex(3, -2)},
		{complex(0.1, 0.2), complex(0.2, 0.1), complex(0.30000000000000004, 0.30000000000000004)},
		{complex(1e16, 1), complex(1, 1e16), complex(1e16, 1e16)},
		{complex(minus, minus), complex(minus, 0), complex(minus, 0)},
		{complex(1, -1), complex(-1, 1), complex(0, 0)},
		{complex(most, -most), complex(most, -most), complex(inf, -inf)},
		{complex(inf, 1), complex(-inf, 1), complex(nan, 2)},
		{complex(stale, 1), complex(1, stale), complex(nan, nan)},
		{complex(inf, nan), complex(1, 1), complex(inf, nan)},
		{complex(1, -inf), complex(nan, 1), complex(nan, -inf)},
	} {
		want(t, "Plus of "+show(c[0])+" and "+show(c[1]), wave.Plus(c[0], c[1]), c[2])
	}
}

func TestP701PlusPartByPart(t *testing.T) {
	for _, a := range points(values()) {
		for _, b := range points(values()) {
			want(t, "Plus of "+show(a)+" and "+show(b), wave.Plus(a, b), complex(real(a)+real(b), imag(a)+imag(b)))
		}
	}
}

func TestP701Sum(t *testing.T) {
	wantSum(t, complex(0, 0))
	wantSum(t, complex(1, 0), 1)
	wantSum(t, complex(1, 2), 1, 2)
	wantSum(t, complex(-3, 2), 1, 2, 4)
	wantSum(t, complex(-3, -6), 1, 2, 4, 8)
	wantSum(t, complex(13, -6), 1, 2, 4, 8, 16)
	wantSum(t, complex(13, 26), 1, 2, 4, 8, 16, 32)
	wantSum(t, complex(-51, 26), 1, 2, 4, 8, 16, 32, 64)
	wantSum(t, complex(-51, -102), 1, 2, 4, 8, 16, 32, 64, 128)
	wantSum(t, complex(205, -102), 1, 2, 4, 8, 16, 32, 64, 128, 256)
	wantSum(t, complex(0, 0), 7, 7, 7, 7, 7, 7, 7, 7)
	wantSum(t, complex(-7, 0), 0, 0, 7)
}

// TestP701SumOfNoughts: what is begun with is (0, 0), so a nought never turns its sign.
func TestP701SumOfNoughts(t *testing.T) {
	for _, v := range []float64{0, minus} {
		for n := range 9 {
			wantSum(t, complex(0, 0), slices.Repeat([]float64{v}, n)...)
		}
	}
	wantSum(t, complex(0, 0), 1, -1, 1, -1)
}

// TestP701SumTouchesOnePart: NaN and infinity stay in the part in which their value stands.
func TestP701SumTouchesOnePart(t *testing.T) {
	for place := range 8 {
		for _, v := range append(nans(), inf, -inf) {
			l := []float64{1, 2, 3, 5, 7, 11, 13, 17}
			l[place] = v
			switch place % 4 {
			case 0:
				wantSum(t, complex(v, -9), l...)
			case 1:
				wantSum(t, complex(-8, v), l...)
			case 2:
				wantSum(t, complex(-v, -9), l...)
			case 3:
				wantSum(t, complex(-8, -v), l...)
			}
		}
	}
	wantSum(t, complex(-8, -9), 1, 2, 3, 5, 7, 11, 13, 17)
	wantSum(t, complex(nan, 0), inf, 0, inf)
	wantSum(t, complex(inf, 0), inf, 0, -inf)
	wantSum(t, complex(0, nan), 0, -inf, 0, -inf)
	wantSum(t, complex(nan, nan), stale, stale, stale, stale)
}

// TestP701SumFromTheLeft: each step is rounded by itself, in the order of the values.
func TestP701SumFromTheLeft(t *testing.T) {
	wantSum(t, complex(0, 0), 1e16, 0, -1, 0, 0, 0, 1e16)
	wantSum(t, complex(1, 0), 1e16, 0, 1e16, 0, 1)
	wantSum(t, complex(0, 0), 1, 0, -1e16, 0, 0, 0, 1e16)
	wantSum(t, complex(0, 1), 0, 1e16, 0, 1e16, 0, 1)
	wantSum(t, complex(0, 0), 0, 1e16, 0, -1, 0, 0, 0, 1e16)
	wantSum(t, complex(inf, 0), most, 0, -most, 0, 0, 0, most)
	wantSum(t, complex(most, 0), most, 0, most, 0, most)
}

// TestP701SumIsTurns: the words of the document, done one by one with Turn and with its parts.
func TestP701SumIsTurns(t *testing.T) {
	l := scatter(500)
	var answer complex128
	for n, v := range l {
		wantSum(t, answer, l[:n]...)
		z := wave.Turn(complex(v, 0), n)
		if n%2 == 0 {
			answer = complex(real(answer)+real(z), imag(answer))
		} else {
			answer = complex(real(answer), imag(answer)+imag(z))
		}
	}
	wantSum(t, answer, l...)
}

func TestP701Join(t *testing.T) {
	for _, c := range []struct {
		want complex128
		l    []complex128
	}{
		{complex(0, 0), nil},
		{complex(0, 0), []complex128{}},
		{complex(1, 2), []complex128{complex(1, 2)}},
		{complex(minus, minus), []complex128{complex(minus, minus)}},
		{complex(minus, minus), []complex128{complex(minus, minus), complex(minus, minus), complex(minus, minus)}},
		{complex(0, minus), []complex128{complex(minus, minus), complex(0, minus)}},
		{complex(3, -2), []complex128{complex(1, 1), complex(2, -3)}},
		{complex(111, 222), []complex128{complex(1, 2), complex(10, 20), complex(100, 200)}},
		{complex(0, 1), []complex128{complex(1, 1e16), complex(1e16, -1e16), complex(-1e16, 1)}},
		{complex(nan, -inf), []complex128{complex(inf, -inf), complex(1, 1), complex(-inf, -inf)}},
		{complex(nan, 1), []complex128{complex(stale, 1)}},
		{complex(3, nan), []complex128{complex(1, stale), complex(2, 2)}},
		{complex(3, nan), []complex128{complex(1, 2), complex(2, stale)}},
	} {
		want(t, fmt.Sprintf("Join of %v", c.l), wave.Join(c.l...), c.want)
	}
}

func TestP701JoinIsPlusOfAll(t *testing.T) {
	v := scatter(400)
	var l []complex128
	for n := 0; n < len(v); n += 2 {
		l = append(l, complex(v[n], v[n+1]))
	}
	answer := l[0]
	for n := 1; n < len(l); n++ {
		want(t, fmt.Sprintf("Join of the first %d", n), wave.Join(l[:n]...), answer)
		answer = wave.Plus(answer, l[n])
	}
	for _, a := range points(values()) {
		want(t, "Join of "+show(a), wave.Join(a), a)
		for _, b := range points(numbers()) {
			want(t, "Join of "+show(a)+" and "+show(b), wave.Join(a, b), wave.Plus(a, b))
		}
	}
}

func TestP701Same(t *testing.T) {
	for _, a := range points(values()) {
		for _, b := range points(values()) {
			same := canonBits(real(a)) == canonBits(real(b)) && canonBits(imag(a)) == canonBits(imag(b))
			if wave.Same(a, b) != same {
				t.Errorf("Same of %s and %s: %v", show(a), show(b), !same)
			}
		}
	}
	for _, c := range [][2]complex128{{complex(0, 0), complex(minus, 0)}, {complex(0, 0), complex(0, minus)}, {complex(1, 2), complex(2, 1)}, {complex(nan, 1), complex(1, nan)}} {
		if wave.Same(c[0], c[1]) || wave.Same(c[1], c[0]) {
			t.Errorf("the same: %s and %s", show(c[0]), show(c[1]))
		}
	}
	if !wave.Same(complex(nan, stale), complex(stale, nan)) {
		t.Error("NaN is not the same as stale")
	}
}

func wantMag(t *testing.T, z complex128, answer float64) {
	t.Helper()
	wantNumber(t, "Mag of "+show(z), wave.Mag(z), answer)
}

func TestP702Mag(t *testing.T) {
	wantMag(t, complex(0, 0), 0)
	wantMag(t, complex(minus, minus), 0)
	wantMag(t, complex(least, -least), 0)
	for _, v := range []float64{1, -1} {
		wantMag(t, complex(3*v, 4), 25)
		wantMag(t, complex(4, 3*v), 25)
		wantMag(t, complex(0, 5*v), 25)
		wantMag(t, complex(5*v, 0), 25)
		wantMag(t, complex(0.1*v, 0), 0.010000000000000002)
		wantMag(t, complex(0, 0.1*v), 0.010000000000000002)
		wantMag(t, complex(most*v, 1), inf)
		wantMag(t, complex(1, most*v), inf)
		wantMag(t, complex(inf*v, -inf), inf)
		wantMag(t, complex(inf*v, 0), inf)
		wantMag(t, complex(1, inf*v), inf)
	}
	for _, v := range append(nans(), nan) {
		for _, w := range values() {
			wantMag(t, complex(v, w), nan)
			wantMag(t, complex(w, v), nan)
		}
	}
}

// TestP702MagAtBounds: each square is rounded, where it is next to nothing too, and both together run over
// where neither does.
func TestP702MagAtBounds(t *testing.T) {
	great, small := math.Ldexp(1, 511), math.Ldexp(1, -537)
	wantMag(t, complex(great, 0), great*great)
	wantMag(t, complex(great, -great), math.Ldexp(1, 1023))
	wantMag(t, complex(1.5*great, 0), math.Ldexp(1.125, 1023))
	wantMag(t, complex(1.5*great, 1.5*great), inf)
	wantMag(t, complex(small, 0), least)
	wantMag(t, complex(small, small), 2*least)
	wantMag(t, complex(small/2, small/2), 0)
	wantMag(t, complex(0.75*small, 0), least)
	wantMag(t, complex(0.75*small, 0.75*small), 2*least)
}

// rounded is what a step of arithmetic owes: the number nearest to its outcome.
func rounded(v *big.Float) *big.Float {
	f, _ := v.Float64()
	return big.NewFloat(f)
}

func square(v float64) *big.Float {
	b := big.NewFloat(v).SetPrec(200)
	return b.Mul(b, b)
}

// TestP702MagRoundsEachSquare: numbers among which a square that is not rounded ahead of the sum would tell.
func TestP702MagRoundsEachSquare(t *testing.T) {
	l := scatter(2000)
	first, second := 0, 0
	for n := 0; n < len(l); n += 2 {
		r, i := l[n], math.Ldexp(l[n+1], math.Ilogb(l[n])-math.Ilogb(l[n+1]))
		a, b := rounded(square(r)), rounded(square(i))
		answer, _ := new(big.Float).SetPrec(3000).Add(a, b).Float64()
		wantMag(t, complex(r, i), answer)
		rr, _ := a.Float64()
		ii, _ := b.Float64()
		if math.FMA(r, r, ii) != answer {
			first++
		}
		if math.FMA(i, i, rr) != answer {
			second++
		}
	}
	if first == 0 || second == 0 {
		t.Errorf("of %d numbers none tells: %d, %d", len(l), first, second)
	}
}

func wantQuarter(t *testing.T, z complex128, answer int) {
	t.Helper()
	if n := wave.Quarter(z); n != answer {
		t.Errorf("Quarter of %s: %d instead of %d", show(z), n, answer)
	}
}

func TestP702Quarter(t *testing.T) {
	for _, v := range []float64{least, 0.5, 1, most, inf} {
		for _, w := range []float64{least, 0.5, 1, most, inf} {
			wantQuarter(t, complex(v, w), 0)
			wantQuarter(t, complex(-v, w), 1)
			wantQuarter(t, complex(-v, -w), 2)
			wantQuarter(t, complex(v, -w), 3)
		}
		for _, nought := range []float64{0, minus} {
			wantQuarter(t, complex(v, nought), 0)
			wantQuarter(t, complex(nought, v), 1)
			wantQuarter(t, complex(-v, nought), 2)
			wantQuarter(t, complex(nought, -v), 3)
		}
	}
}

func TestP702QuarterOfNothing(t *testing.T) {
	for _, z := range points([]float64{0, minus}) {
		wantQuarter(t, z, 0)
	}
	for _, v := range nans() {
		for _, w := range values() {
			wantQuarter(t, complex(v, w), 0)
			wantQuarter(t, complex(w, v), 0)
		}
	}
}

// TestP702QuarterTurns: a quarter's turn is the quarter behind, wherever there is one.
func TestP702QuarterTurns(t *testing.T) {
	for _, z := range points(numbers()) {
		if real(z) == 0 && imag(z) == 0 {
			continue
		}
		for n := -8; n <= 8; n++ {
			wantQuarter(t, wave.Turn(z, n), (wave.Quarter(z)+n+8)%4)
		}
	}
}

// TestP2ListsStayAsTheyAre: what is handed in is not changed, nor its spare room.
func TestP2ListsStayAsTheyAre(t *testing.T) {
	l := []float64{1, stale, minus, 4, 5, 6}
	bits := make([]uint64, len(l))
	for n, v := range l {
		bits[n] = math.Float64bits(v)
	}
	wave.Sum(l[:4]...)
	for n, v := range l {
		if math.Float64bits(v) != bits[n] {
			t.Errorf("Sum changed place %d: %v", n, v)
		}
	}
	z := []complex128{complex(stale, 1), complex(minus, stale), complex(3, 4), complex(5, 6)}
	was := slices.Clone(z)
	wave.Join(z[:2]...)
	for n := range z {
		if math.Float64bits(real(z[n])) != math.Float64bits(real(was[n])) || math.Float64bits(imag(z[n])) != math.Float64bits(imag(was[n])) {
			t.Errorf("Join changed place %d: %s", n, show(z[n]))
		}
	}
}

// TestP3TheSameAgain: nothing is kept from call to call.
func TestP3TheSameAgain(t *testing.T) {
	for range 3 {
		wantSum(t, complex(nan, 2), stale, 2)
		wantSum(t, complex(13, -6), 1, 2, 4, 8, 16)
		wantTurn(t, complex(3, 4), -1, complex(4, -3))
		want(t, "Join again", wave.Join(complex(1, 2), complex(3, 4)), complex(4, 6))
		want(t, "Join of none again", wave.Join(), complex(0, 0))
		wantMag(t, complex(3, 4), 25)
		wantQuarter(t, complex(-1, 1), 1)
	}
}
