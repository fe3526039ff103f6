package vector_test

import (
	"fmt"
	"math"
	"slices"
	"strings"
	"testing"

	"isobar/api"
	"isobar/labels"
	"isobar/vector"
)

var (
	inf   = math.Inf(1)
	minus = math.Copysign(0, -1)
	nan   = math.Float64frombits(0x7FF8000000000001)
	stale = math.Float64frombits(0x7FF0000000000002)
	odd   = math.Float64frombits(0xFFF8000000000007)
	least = math.SmallestNonzeroFloat64
	most  = math.MaxFloat64
)

// numbers are values of all kinds.
func numbers() []float64 {
	return []float64{0, minus, 1, -1, 2, -2.5, 0.1, 3, 1e16, least, -least, most, -most, inf, -inf, nan, stale, odd}
}

// list answers labels of names and values that take turns.
func list(l ...string) []api.Label {
	var out []api.Label
	for i := 0; i < len(l); i += 2 {
		out = append(out, api.Label{Name: l[i], Value: l[i+1]})
	}
	return out
}

func point(v float64, l ...string) api.Point {
	return api.Point{L: list(l...), V: v}
}

// many answers n labels that are Right, if n is at most MaxNames.
func many(n int) []api.Label {
	var out []api.Label
	for i := range n {
		out = append(out, api.Label{Name: fmt.Sprintf("n%02d", i), Value: "v"})
	}
	return out
}

// canonBits are v's bits, those of the common NaN in place of all: written here apart from the program.
func canonBits(v float64) uint64 {
	if math.IsNaN(v) {
		return math.Float64bits(nan)
	}
	return math.Float64bits(v)
}

func show(l []api.Point) string {
	s := ""
	for _, p := range l {
		s += fmt.Sprintf("%s %v (%X); ", labels.Text(p.L), p.V, math.Float64bits(p.V))
	}
	return "[" + s + "]"
}

// wantPoints asks for points, labels and bits, the common NaN in place of all.
func wantPoints(t *testing.T, what string, got, want []api.Point) {
	t.Helper()
	same := len(got) == len(want)
	for i := 0; same && i < len(got); i++ {
		same = slices.Equal(got[i].L, want[i].L) && canonBits(got[i].V) == canonBits(want[i].V)
	}
	if !same {
		t.Errorf("%s: %s instead of %s", what, show(got), show(want))
	}
}

func wantVec(t *testing.T, what string, got vector.Vec, err api.Errno, want ...api.Point) {
	t.Helper()
	if err != api.OK {
		t.Errorf("%s: %v", what, err)
	}
	wantPoints(t, what, got, want)
	if !got.Right() {
		t.Errorf("%s is not Right: %s", what, show(got))
	}
}

func wantErr(t *testing.T, what string, got vector.Vec, err, want api.Errno) {
	t.Helper()
	if err != want || len(got) != 0 {
		t.Errorf("%s: %s, %v instead of %v", what, show(got), err, want)
	}
}

// wantCommon asks that each NaN has the common one's bits.
func wantCommon(t *testing.T, what string, v vector.Vec) {
	t.Helper()
	for _, p := range v {
		if math.Float64bits(p.V) != canonBits(p.V) {
			t.Errorf("%s: bits %X", what, math.Float64bits(p.V))
		}
	}
}

// vec answers a vector of points in any order.
func vec(t *testing.T, l ...api.Point) vector.Vec {
	t.Helper()
	v, err := vector.Normal(l...)
	if err != api.OK {
		t.Fatalf("%s: %v", show(l), err)
	}
	return v
}

// rising answers points in the order of labels: by name, then by value, by bytes; the shorter first.
func rising() []api.Point {
	return []api.Point{
		point(1),
		point(2, "A", "z"),
		point(3, "A", "z", api.Name, "a"),
		point(4, api.Name, "m"),
		point(5, api.Name, "m", "a", "1"),
		point(6, api.Name, "m", "b", "0"),
		point(7, api.Name, "n"),
		point(8, "a", "\x00"),
		point(9, "a", "1"),
		point(10, "a", "1", "b", "1"),
		point(11, "a", "1", "b", "2"),
		point(12, "a", "1", "c", "0"),
		point(13, "a", "10"),
		point(14, "a", "2"),
		point(15, "a", "\xff"),
		point(16, "aa", "0"),
		point(17, "b", "0"),
	}
}

// scatter answers n numbers from 0 to below bound, the same ones in each run of the same seed.
func scatter(seed uint64, n, bound int) []int {
	l, x := make([]int, n), seed
	for i := range l {
		x = x*6364136223846793005 + 1442695040888963407
		l[i] = int((x ^ x>>29) % uint64(bound))
	}
	return l
}

// shuffled answers l in an order of that seed.
func shuffled(seed uint64, l []api.Point) []api.Point {
	l = slices.Clone(l)
	for i, n := range scatter(seed, len(l), 1<<40) {
		j := n % (i + 1)
		l[i], l[j] = l[j], l[i]
	}
	return l
}

// wrong are labels that are not Right.
func wrong() [][]api.Label {
	return [][]api.Label{
		list("b", "1", "a", "1"),
		list("a", "1", "a", "1"),
		list("a", "1", "a", "2"),
		list("a", ""),
		list("", "1"),
		list("1", "1"),
		list("a-b", "1"),
		list("\u00e4", "1"),
		list(strings.Repeat("n", api.MaxName+1), "1"),
		list("a", strings.Repeat("v", api.MaxValue+1)),
		list("a", "1", "b", "1", "B", "1"),
		many(api.MaxNames + 1),
	}
}

func TestP901Normal(t *testing.T) {
	want := rising()
	for seed := range uint64(300) {
		v, err := vector.Normal(shuffled(seed, want)...)
		wantVec(t, "Normal", v, err, want...)
	}
	for i := range want {
		for j := range i {
			v, err := vector.Normal(want[i], want[j])
			wantVec(t, "Normal of two", v, err, want[j], want[i])
		}
		v, err := vector.Normal(want[i])
		wantVec(t, "Normal of one", v, err, want[i])
	}
	v, err := vector.Normal()
	wantVec(t, "Normal of none", v, err)
	v, err = vector.Normal([]api.Point{}...)
	wantVec(t, "Normal of an empty list", v, err)
}

// TestP901NormalOfMany: more points than are put in order one by one.
func TestP901NormalOfMany(t *testing.T) {
	var want []api.Point
	for i := range 5000 {
		want = append(want, point(float64(i), "n", fmt.Sprintf("%05d", i)))
	}
	v, err := vector.Normal(shuffled(3, want)...)
	wantVec(t, "Normal of many", v, err, want...)
	v, err = vector.Normal(append(shuffled(4, want), want[1234])...)
	wantErr(t, "Normal of many and one again", v, err, api.ErrDup)
}

func TestP901NormalValuesAreCanon(t *testing.T) {
	for _, x := range numbers() {
		v := vec(t, point(x, "a", "1"), point(x))
		wantVec(t, "Normal", v, api.OK, point(x), point(x, "a", "1"))
		wantCommon(t, "Normal", v)
	}
}

func TestP901NormalWrongLabels(t *testing.T) {
	for _, l := range wrong() {
		p := api.Point{L: l, V: 1}
		for _, c := range [][]api.Point{
			{p},
			{p, p},
			{point(1, "a", "1"), p},
			{p, point(1, "a", "1")},
			{point(1), point(2, "a", "1"), p, point(2, "b", "1")},
			// Of several errors ErrArg comes first, wherever two of the same labels stand.
			{point(1, "a", "1"), point(1, "a", "1"), p},
			{p, point(1, "a", "1"), point(1, "a", "1")},
			{point(1), p, point(1)},
		} {
			v, err := vector.Normal(c...)
			wantErr(t, "Normal of "+show(c), v, err, api.ErrArg)
		}
	}
	v, err := vector.Normal(api.Point{L: many(api.MaxNames), V: 1})
	wantVec(t, "labels as many as may be", v, err, api.Point{L: many(api.MaxNames), V: 1})
	long := point(1, strings.Repeat("n", api.MaxName), strings.Repeat("v", api.MaxValue))
	v, err = vector.Normal(long)
	wantVec(t, "labels as long as may be", v, err, long)
}

func TestP901NormalTwice(t *testing.T) {
	l := rising()
	for i, p := range l {
		again := api.Point{L: slices.Clone(p.L), V: p.V + 1}
		for seed := range uint64(8) {
			v, err := vector.Normal(shuffled(seed+uint64(100*i), append(rising(), again))...)
			wantErr(t, "Normal of two of "+labels.Text(p.L), v, err, api.ErrDup)
		}
		v, err := vector.Normal(p, p)
		wantErr(t, "Normal of twice "+labels.Text(p.L), v, err, api.ErrDup)
		v, err = vector.Normal(p, again, p)
		wantErr(t, "Normal of three times "+labels.Text(p.L), v, err, api.ErrDup)
	}
	v, err := vector.Normal(api.Point{L: []api.Label{}}, point(1))
	wantErr(t, "no labels and an empty list", v, err, api.ErrDup)
}

func wantRight(t *testing.T, want bool, l ...api.Point) {
	t.Helper()
	if vector.Vec(l).Right() != want {
		t.Errorf("Right of %s is not %v", show(l), want)
	}
}

func TestP901Right(t *testing.T) {
	wantRight(t, true)
	wantRight(t, true, []api.Point{}...)
	l := rising()
	wantRight(t, true, l...)
	for i := range l {
		wantRight(t, true, l[i])
		wantRight(t, false, l[i], l[i])
		wantRight(t, true, slices.Delete(rising(), i, i+1)...)
		wantRight(t, false, slices.Insert(rising(), i, l[i])...)
		if i > 0 {
			wantRight(t, true, l[i-1], l[i])
			wantRight(t, false, l[i], l[i-1])
			swapped := rising()
			swapped[i], swapped[i-1] = swapped[i-1], swapped[i]
			wantRight(t, false, swapped...)
		}
	}
	wantRight(t, false, point(1), api.Point{L: []api.Label{}, V: 2})
	for _, l := range wrong() {
		wantRight(t, false, api.Point{L: l})
		wantRight(t, false, point(1), api.Point{L: l})
		wantRight(t, false, api.Point{L: l}, point(1, "z", "1"))
	}
	wantRight(t, true, api.Point{L: many(api.MaxNames)})
	for _, x := range numbers() {
		wantRight(t, true, point(x), point(x, "a", "1")) // it is asked of labels alone
	}
}

// TestP901RightIsNormal: what is Right is what Normal leaves as it is.
func TestP901RightIsNormal(t *testing.T) {
	l := append(rising(), api.Point{L: wrong()[0]}, api.Point{L: wrong()[3]})
	rights := 0
	for seed := range uint64(4000) {
		var v vector.Vec
		for _, i := range scatter(seed, int(seed%4)+1, len(l)) {
			v = append(v, l[i])
		}
		n, err := vector.Normal(v...)
		same := err == api.OK && slices.EqualFunc(n, v, func(p, q api.Point) bool { return slices.Equal(p.L, q.L) })
		if v.Right() != same {
			t.Errorf("Right of %s: %v", show(v), v.Right())
		}
		if same && len(v) > 1 {
			rights++
		}
	}
	if rights == 0 {
		t.Error("no vector of several points was Right")
	}
}

// strangers are numbers of no function of values.
func strangers() []int {
	return []int{math.MinInt, -5, -1, 0, 6, 7, 1 << 32, 1<<32 + 1, math.MaxInt}
}

// mapped is a function's outcome, worked out apart from the program.
func mapped(fn int, x, arg float64) float64 {
	switch fn {
	case api.FAbs:
		return math.Abs(x)
	case api.FNeg:
		return math.Copysign(x, -math.Copysign(1, x))
	case api.FSgn:
		if x == 0 || math.IsNaN(x) {
			return x
		}
		return math.Copysign(1, x)
	case api.FMin:
		if math.IsNaN(arg) || x < arg {
			return arg
		}
	case api.FMax:
		if math.IsNaN(arg) || x > arg {
			return arg
		}
	}
	return x
}

func TestP902Map(t *testing.T) {
	v := vec(t, point(-2, api.Name, "m", "a", "2"), point(3, api.Name, "m", "a", "1"), point(minus, "b", "1"), point(stale))
	for fn := api.FAbs; fn <= api.FMax; fn++ {
		for _, arg := range numbers() {
			got, err := v.Map(fn, arg)
			wantVec(t, fmt.Sprintf("function %d by %v", fn, arg), got, err,
				point(mapped(fn, stale, arg)), point(mapped(fn, 3, arg), "a", "1"), point(mapped(fn, -2, arg), "a", "2"), point(mapped(fn, minus, arg), "b", "1"))
			wantCommon(t, "Map", got)
			for _, x := range numbers() {
				got, err := vector.Of(x).Map(fn, arg)
				wantVec(t, fmt.Sprintf("function %d of %v by %v", fn, x, arg), got, err, point(mapped(fn, x, arg)))
			}
		}
		got, err := vector.Vec(nil).Map(fn, 1)
		wantVec(t, "Map of none", got, err)
	}
}

// TestP902MapOrder: without the metric's name points stand in another order, and some are the same.
func TestP902MapOrder(t *testing.T) {
	v := vec(t, point(1, api.Name, "a", "x", "3"), point(2, api.Name, "b", "x", "2"), point(3, api.Name, "c", "x", "1"), point(4, "A", "1", api.Name, "z"), point(5, "w", "1"))
	for fn := api.FAbs; fn <= api.FMax; fn++ {
		got, err := v.Map(fn, 3)
		wantVec(t, "Map", got, err, point(mapped(fn, 4, 3), "A", "1"), point(mapped(fn, 5, 3), "w", "1"), point(mapped(fn, 3, 3), "x", "1"), point(mapped(fn, 2, 3), "x", "2"), point(mapped(fn, 1, 3), "x", "3"))
		for _, two := range []vector.Vec{
			vec(t, point(1, api.Name, "m"), point(1, api.Name, "n")),
			vec(t, point(1), point(2, api.Name, "n")),
			vec(t, point(1, api.Name, "m", "a", "1"), point(2, "a", "1")),
			vec(t, point(1, "A", "1"), point(2, "A", "1", api.Name, "m")),
		} {
			got, err := two.Map(fn, 3)
			wantErr(t, "Map of "+show(two), got, err, api.ErrDup)
		}
	}
	got, err := vec(t, point(1, api.Name, "m")).Map(api.FAbs, 0)
	wantVec(t, "Map of a name alone", got, err, point(1))
}

func TestP902MapOfNoFunction(t *testing.T) {
	for _, fn := range strangers() {
		for _, v := range []vector.Vec{nil, {}, vector.Of(1), vec(t, rising()...), vec(t, point(1, api.Name, "m"), point(1, api.Name, "n"))} {
			got, err := v.Map(fn, 1)
			wantErr(t, fmt.Sprintf("function %d of %s", fn, show(v)), got, err, api.ErrArg)
		}
	}
}

func TestP902Label(t *testing.T) {
	v := vec(t, point(1, api.Name, "m", "a", "1"), point(minus, "a", "2", "c", "1"), point(odd, "b", "1", "c", "9"))
	got, err := v.Label("b", "x")
	wantVec(t, "a label more", got, err, point(1, api.Name, "m", "a", "1", "b", "x"), point(minus, "a", "2", "b", "x", "c", "1"), point(odd, "b", "x", "c", "9"))
	got, err = v.Label("a", "")
	wantVec(t, "a label less", got, err, point(1, api.Name, "m"), point(odd, "b", "1", "c", "9"), point(minus, "c", "1"))
	got, err = v.Label("zz", "")
	wantVec(t, "a label that is not there less", got, err, v...)
	got, err = v.Label(api.Name, "")
	wantVec(t, "the name less", got, err, point(1, "a", "1"), point(minus, "a", "2", "c", "1"), point(odd, "b", "1", "c", "9"))
	got, err = v.Label(api.Name, "n")
	wantVec(t, "another name", got, err, point(1, api.Name, "n", "a", "1"), point(minus, api.Name, "n", "a", "2", "c", "1"), point(odd, api.Name, "n", "b", "1", "c", "9"))
	got, err = vec(t, point(1), point(2, "a", "1")).Label("A", "\x00\xff")
	wantVec(t, "bytes of any kind", got, err, point(1, "A", "\x00\xff"), point(2, "A", "\x00\xff", "a", "1"))
	got, err = vector.Vec(nil).Label("a", "1")
	wantVec(t, "Label of none", got, err)
	for _, x := range numbers() {
		got, err := vector.Of(x).Label("a", "1")
		wantVec(t, "a value", got, err, point(x, "a", "1"))
	}
}

func TestP902LabelTwice(t *testing.T) {
	v := vec(t, point(1, "a", "1", "b", "1"), point(2, "a", "2", "b", "1"), point(3, "b", "1"))
	for _, value := range []string{"", "1", "2", "3"} {
		got, err := v.Label("a", value)
		wantErr(t, "a is "+value, got, err, api.ErrDup)
	}
	got, err := v.Label("b", "")
	wantVec(t, "without b", got, err, point(3), point(1, "a", "1"), point(2, "a", "2"))
}

// TestP902LabelTooMany: labels that would be too many stay, and may then be another point's.
func TestP902LabelTooMany(t *testing.T) {
	full := api.Point{L: many(api.MaxNames), V: 1}
	few := point(2, "a", "1")
	got, err := vec(t, full, few).Label("x", "9")
	wantVec(t, "a full list", got, err, point(2, "a", "1", "x", "9"), full)
	less := api.Point{L: many(api.MaxNames - 1), V: 3}
	last := many(api.MaxNames)[api.MaxNames-1]
	got, err = vec(t, full, less).Label(last.Name, last.Value)
	wantErr(t, "the last label of a full list", got, err, api.ErrDup)
	got, err = vec(t, less).Label(last.Name, last.Value)
	wantVec(t, "a list that becomes full", got, err, api.Point{L: many(api.MaxNames), V: 3})
	got, err = vec(t, full).Label(last.Name, "w")
	changed := api.Point{L: many(api.MaxNames), V: 1}
	changed.L[api.MaxNames-1].Value = "w"
	wantVec(t, "another value in a full list", got, err, changed)
	got, err = vec(t, full).Label(last.Name, "")
	wantVec(t, "one less of a full list", got, err, api.Point{L: many(api.MaxNames - 1), V: 1})
}

func TestP902LabelRefused(t *testing.T) {
	long := strings.Repeat("v", api.MaxValue)
	name := strings.Repeat("n", api.MaxName)
	for _, v := range []vector.Vec{nil, vector.Of(1), vec(t, rising()...), vec(t, point(1, "a", "1"), point(2, "a", "2"))} {
		for _, bad := range []string{"", "1", "9a", "a-b", "a b", "a\x00", "\u00e4", name + "n"} {
			for _, value := range []string{"", "1", long, long + "v"} {
				got, err := v.Label(bad, value)
				wantErr(t, fmt.Sprintf("name %q", bad), got, err, api.ErrArg)
			}
		}
		for _, n := range []string{"a", api.Name, name} {
			got, err := v.Label(n, long+"v")
			wantErr(t, "a long value", got, err, api.ErrArg)
		}
	}
	got, err := vector.Of(1).Label(name, long)
	wantVec(t, "as long as may be", got, err, point(1, name, long))
}

func TestP902Scalar(t *testing.T) {
	for _, x := range numbers() {
		for _, v := range []vector.Vec{vector.Of(x), vec(t, point(x, "a", "1")), vec(t, point(x, api.Name, "m"))} {
			if got := v.Scalar(); canonBits(got) != canonBits(x) {
				t.Errorf("Scalar of %s: %v", show(v), got)
			}
		}
		for _, v := range []vector.Vec{nil, {}, vec(t, point(x), point(x, "a", "1")), vec(t, point(x), point(1, "a", "1"), point(2, "a", "2"))} {
			if got := v.Scalar(); math.Float64bits(got) != math.Float64bits(nan) {
				t.Errorf("Scalar of %s: %v, %X", show(v), got, math.Float64bits(got))
			}
		}
	}
}

func TestP902Of(t *testing.T) {
	for _, x := range numbers() {
		wantVec(t, "Of", vector.Of(x), api.OK, point(x))
	}
}

func TestP902Same(t *testing.T) {
	v := func() vector.Vec { return vector.Vec{point(nan), point(minus, "a", "1"), point(3, "a", "2", "b", "1")} }
	for _, b := range []vector.Vec{
		v(),
		{point(stale), point(minus, "a", "1"), point(3, "a", "2", "b", "1")},
		{{L: []api.Label{}, V: odd}, point(minus, "a", "1"), point(3, "a", "2", "b", "1")},
	} {
		if !vector.Same(v(), b) || !vector.Same(b, v()) {
			t.Errorf("not the same: %s, %s", show(v()), show(b))
		}
	}
	for _, b := range []vector.Vec{
		nil,
		v()[:2],
		v()[1:],
		append(v(), point(4, "b", "1")),
		{point(1), point(minus, "a", "1"), point(3, "a", "2", "b", "1")},
		{point(nan), point(0, "a", "1"), point(3, "a", "2", "b", "1")},
		{point(nan), point(minus, "a", "1"), point(4, "a", "2", "b", "1")},
		{point(nan), point(minus, "a", "0"), point(3, "a", "2", "b", "1")},
		{point(nan), point(minus, "A", "1"), point(3, "a", "2", "b", "1")},
		{point(nan), point(minus, "a", "1"), point(3, "a", "2")},
		{point(nan), point(minus, "a", "1"), point(3, "a", "2", "b", "2")},
		{point(nan), point(minus, "a", "1"), point(3, "a", "2", "c", "1")},
		{point(nan), point(minus, "a", "1"), point(3, "a", "2", "b", "1", "c", "1")},
	} {
		if vector.Same(v(), b) || vector.Same(b, v()) {
			t.Errorf("the same: %s, %s", show(v()), show(b))
		}
	}
	if !vector.Same(nil, vector.Vec{}) || !vector.Same(vector.Vec{}, nil) || !vector.Same(nil, nil) {
		t.Error("no list and an empty one are not the same")
	}
}

// outcome is an operator's, 1 or 0 of one that compares, worked out apart from the program.
func outcome(op int, a, b float64) float64 {
	var holds bool
	switch op {
	case api.Add:
		return a + b
	case api.Sub:
		return a - b
	case api.Mul:
		return a * b
	case api.Div:
		return a / b
	case api.Eq:
		holds = a == b
	case api.Ne:
		holds = a < b || a > b || math.IsNaN(a) || math.IsNaN(b)
	case api.Gt:
		holds = b < a
	case api.Lt:
		holds = b > a
	case api.Ge:
		holds = b < a || a == b
	case api.Le:
		holds = b > a || a == b
	}
	if holds {
		return 1
	}
	return 0
}

// TestP903ScaledOfAll: each operator of each two values, on either side, with flag and without it.
func TestP903ScaledOfAll(t *testing.T) {
	for op := api.Add; op <= api.Le; op++ {
		for _, x := range numbers() {
			for _, y := range numbers() {
				for _, left := range []bool{false, true} {
					want := outcome(op, y, x)
					if left {
						want = outcome(op, x, y)
					}
					what := fmt.Sprintf("operator %d of %v and %v, left %v", op, y, x, left)
					v := vec(t, point(y, api.Name, "m", "a", "1"), point(y, "b", "1"))
					got, err := v.Scaled(op, x, left, true)
					wantVec(t, what+", with flag", got, err, point(want, "a", "1"), point(want, "b", "1"))
					wantCommon(t, what, got)
					got, err = v.Scaled(op, x, left, false)
					switch {
					case op <= api.Div:
						wantVec(t, what, got, err, point(want, "a", "1"), point(want, "b", "1"))
						wantCommon(t, what, got)
					case want == 1:
						wantVec(t, what, got, err, point(y, api.Name, "m", "a", "1"), point(y, "b", "1"))
					default:
						wantVec(t, what, got, err)
					}
				}
			}
		}
	}
}

func TestP903Scaled(t *testing.T) {
	v := vec(t, point(1, api.Name, "m", "a", "1"), point(5, api.Name, "m", "a", "2"), point(-3, "b", "1"), point(5, "c", "1"))
	got, err := v.Scaled(api.Sub, 1, false, false)
	wantVec(t, "less 1", got, err, point(0, "a", "1"), point(4, "a", "2"), point(-4, "b", "1"), point(4, "c", "1"))
	got, err = v.Scaled(api.Sub, 1, true, false)
	wantVec(t, "1 less", got, err, point(0, "a", "1"), point(-4, "a", "2"), point(4, "b", "1"), point(-4, "c", "1"))
	got, err = v.Scaled(api.Div, 0, false, true)
	wantVec(t, "by 0", got, err, point(inf, "a", "1"), point(inf, "a", "2"), point(-inf, "b", "1"), point(inf, "c", "1"))
	got, err = v.Scaled(api.Gt, 1, false, false)
	wantVec(t, "above 1", got, err, point(5, api.Name, "m", "a", "2"), point(5, "c", "1"))
	got, err = v.Scaled(api.Gt, 1, true, false)
	wantVec(t, "1 above", got, err, point(-3, "b", "1"))
	got, err = v.Scaled(api.Gt, 1, true, true)
	wantVec(t, "whether 1 is above", got, err, point(0, "a", "1"), point(0, "a", "2"), point(1, "b", "1"), point(0, "c", "1"))
	got, err = v.Scaled(api.Ne, nan, false, false)
	wantVec(t, "other than NaN", got, err, v...)
	got, err = v.Scaled(api.Le, nan, false, false)
	wantVec(t, "at most NaN", got, err)
	for op := api.Add; op <= api.Le; op++ {
		for _, flag := range []bool{false, true} {
			got, err := vector.Vec(nil).Scaled(op, 1, false, flag)
			wantVec(t, "Scaled of none", got, err)
		}
	}
}

// TestP903ScaledNames: names go where values change, and points of the same labels may be left; where points
// are chosen, they stay.
func TestP903ScaledNames(t *testing.T) {
	two := vec(t, point(1, api.Name, "m", "a", "1"), point(2, api.Name, "n", "a", "1"), point(3, "a", "1"))
	turned := vec(t, point(1, api.Name, "m", "a", "2"), point(2, api.Name, "n", "a", "1"))
	for op := api.Add; op <= api.Le; op++ {
		for _, left := range []bool{false, true} {
			for _, flag := range []bool{false, true} {
				what := fmt.Sprintf("operator %d, left %v, flag %v", op, left, flag)
				got, err := two.Scaled(op, nan, left, flag)
				other, otherErr := turned.Scaled(op, nan, left, flag)
				switch {
				case op >= api.Eq && !flag && op == api.Ne:
					wantVec(t, what, got, err, two...)
					wantVec(t, what, other, otherErr, turned...)
				case op >= api.Eq && !flag:
					wantVec(t, what, got, err)
					wantVec(t, what, other, otherErr)
				default:
					wantErr(t, what, got, err, api.ErrDup)
					wantVec(t, what, other, otherErr, point(outcome(op, 2, nan), "a", "1"), point(outcome(op, 1, nan), "a", "2"))
				}
			}
		}
	}
}

func TestP903ScaledByNoOperator(t *testing.T) {
	for _, op := range []int{math.MinInt, -1, 0, api.And, api.Or, api.Less, api.Deft, 15, 1<<32 + 1, math.MaxInt} {
		for _, v := range []vector.Vec{nil, {}, vector.Of(1), vec(t, point(1, api.Name, "m"), point(1, api.Name, "n"))} {
			for _, left := range []bool{false, true} {
				for _, flag := range []bool{false, true} {
					got, err := v.Scaled(op, 1, left, flag)
					wantErr(t, fmt.Sprintf("operator %d", op), got, err, api.ErrArg)
				}
			}
		}
	}
}

func equal(name, value string) api.Matcher {
	return api.Matcher{Kind: api.Equal, Name: name, Value: value}
}

func wantAbsent(t *testing.T, want []api.Label, m ...api.Matcher) {
	t.Helper()
	for _, v := range []vector.Vec{nil, {}} {
		wantVec(t, fmt.Sprintf("Absent of %v", m), v.Absent(m...), api.OK, api.Point{L: want, V: 1})
	}
	for _, v := range []vector.Vec{vector.Of(0), vector.Of(nan), vec(t, rising()...)} {
		wantVec(t, fmt.Sprintf("Absent of %v, though there is a point", m), v.Absent(m...), api.OK)
	}
}

func TestP904Absent(t *testing.T) {
	wantAbsent(t, nil)
	wantAbsent(t, nil, []api.Matcher{}...)
	wantAbsent(t, list("a", "1"), equal("a", "1"))
	wantAbsent(t, list("a", "1", "b", "2", "c", "3"), equal("c", "3"), equal("a", "1"), equal("b", "2"))
	wantAbsent(t, list("a", "\x00"), equal("a", "\x00"))
	for _, kind := range []int{api.NotEqual, api.Like, api.NotLike} {
		m := api.Matcher{Kind: kind, Name: "a", Value: "1"}
		wantAbsent(t, nil, m)
		wantAbsent(t, list("a", "1"), equal("a", "1"), m)
		wantAbsent(t, list("a", "2"), m, equal("a", "2"), m)
		wantAbsent(t, list("b", "1"), m, equal("b", "1"))
	}
	wantAbsent(t, nil, equal(api.Name, "m"))
	wantAbsent(t, list("a", "1"), equal(api.Name, "m"), equal("a", "1"))
	wantAbsent(t, nil, equal("a", ""))
	wantAbsent(t, list("b", "1"), equal("a", ""), equal("b", "1"))
}

func TestP904AbsentTwice(t *testing.T) {
	wantAbsent(t, nil, equal("a", "1"), equal("a", "2"))
	wantAbsent(t, nil, equal("a", "1"), equal("a", "1"))
	wantAbsent(t, nil, equal("a", "1"), equal("a", "1"), equal("a", "1"))
	wantAbsent(t, nil, equal("a", "1"), equal("a", "2"), equal("a", "1"), equal("a", "3"))
	wantAbsent(t, list("b", "1", "d", "1"), equal("a", "1"), equal("b", "1"), equal("c", "1"), equal("c", "2"), equal("d", "1"), equal("a", "1"))
	// An empty value is none that is said: beside it another one is said just once.
	wantAbsent(t, list("a", "1"), equal("a", ""), equal("a", "1"), equal("a", ""))
}

func TestP904AbsentAtBounds(t *testing.T) {
	var m []api.Matcher
	for _, x := range many(api.MaxNames) {
		m = append(m, equal(x.Name, x.Value))
	}
	slices.Reverse(m)
	wantAbsent(t, many(api.MaxNames), m...)
	name, value := strings.Repeat("n", api.MaxName), strings.Repeat("v", api.MaxValue)
	wantAbsent(t, list(name, value), equal(name, value))
}

func TestP905Names(t *testing.T) {
	names := map[int]string{api.FAbs: "abs", api.FSgn: "sgn", api.FMin: "clamp_min", api.FMax: "clamp_max"}
	for fn, want := range names {
		if s := vector.Name(fn); s != want {
			t.Errorf("Name of %d: %q", fn, s)
		}
		if n, ok := vector.Named(want); n != fn || !ok {
			t.Errorf("Named of %q: %d, %v", want, n, ok)
		}
		for _, s := range []string{want + " ", " " + want, want + "s", want[1:], want[:len(want)-1], strings.ToUpper(want), want + "\x00"} {
			if n, ok := vector.Named(s); n != 0 || ok {
				t.Errorf("Named of %q: %d, %v", s, n, ok)
			}
		}
	}
	for _, fn := range append(strangers(), api.FNeg) {
		if s := vector.Name(fn); s != "" {
			t.Errorf("Name of %d: %q", fn, s)
		}
	}
	for _, s := range []string{"", "neg", "-", "clamp", "clamp_", "\xff", "min", "abs\n", "sum"} {
		if n, ok := vector.Named(s); n != 0 || ok {
			t.Errorf("Named of %q: %d, %v", s, n, ok)
		}
	}
}

// roomy answers a vector with spare room behind its points and behind the labels of each, all of it filled.
func roomy(l ...api.Point) vector.Vec {
	v := slices.Grow(vector.Vec{}, len(l)+3)
	for _, p := range l {
		room := append(slices.Grow([]api.Label{}, len(p.L)+3), p.L...)
		fill(room)
		v = append(v, api.Point{L: room, V: p.V})
	}
	spare := v[len(v):cap(v)]
	for i := range spare {
		spare[i] = point(77, "spare", "point")
	}
	return v
}

func fill(l []api.Label) {
	spare := l[len(l):cap(l)]
	for i := range spare {
		spare[i] = api.Label{Name: "spare", Value: "label"}
	}
}

// held is all of v, its spare room too, to be held against what it is later.
func held(v vector.Vec) []api.Point {
	var l []api.Point
	for _, p := range v[:cap(v)] {
		l = append(l, api.Point{L: slices.Clone(p.L[:cap(p.L)]), V: p.V})
	}
	return l
}

func wantUntouched(t *testing.T, what string, v vector.Vec, was []api.Point) {
	t.Helper()
	now := held(v)
	same := len(now) == len(was)
	for i := 0; same && i < len(was); i++ {
		same = slices.Equal(now[i].L, was[i].L) && math.Float64bits(now[i].V) == math.Float64bits(was[i].V)
	}
	if !same {
		t.Errorf("%s: changed: %s instead of %s", what, show(now), show(was))
	}
}

// scrawl writes over all of a vector, over its spare room, and over that of its labels.
func scrawl(v vector.Vec) {
	v = v[:cap(v)]
	for i := range v {
		l := v[i].L[:cap(v[i].L)]
		for j := range l {
			l[j] = api.Label{Name: "scrawl", Value: "all"}
		}
		v[i] = point(99, "scrawl", "point")
	}
}

// wantApart asks that no two points of v share memory: what is written to one is not seen in another.
func wantApart(t *testing.T, what string, v vector.Vec) {
	t.Helper()
	for i, p := range v {
		was := held(v)
		l := p.L[:cap(p.L)]
		for j := range l {
			l[j].Value = fmt.Sprintf("point %d", i)
		}
		now := held(v)
		for k := range was {
			if k != i && !slices.Equal(now[k].L, was[k].L) {
				t.Errorf("%s: points %d and %d share labels", what, i, k)
			}
		}
	}
}

// calls are all calls that answer a vector, of v and of matchers.
func calls(v vector.Vec, m []api.Matcher) map[string]vector.Vec {
	out := map[string]vector.Vec{}
	out["Normal"], _ = vector.Normal(v...)
	for fn := api.FAbs; fn <= api.FMax; fn++ {
		out[fmt.Sprintf("Map %d", fn)], _ = v.Map(fn, 2)
	}
	for _, name := range []string{"a", "b", "zz", api.Name} {
		for _, value := range []string{"", "1", "9"} {
			out["Label "+name+value], _ = v.Label(name, value)
		}
	}
	for op := api.Add; op <= api.Le; op++ {
		for i := range 4 {
			out[fmt.Sprintf("Scaled %d, %d", op, i)], _ = v.Scaled(op, 2, i&1 == 1, i&2 == 2)
		}
	}
	out["Absent"] = v.Absent(m...)
	out["Of"] = vector.Of(2)
	return out
}

// TestP2WhatIsHandedInStays: neither a call nor what is written to its answer changes what was handed in, nor
// its spare room; and no two points of an answer share any.
func TestP2WhatIsHandedInStays(t *testing.T) {
	shared := list("x", "1", "y", "2", "z", "3")
	full := api.Point{L: many(api.MaxNames), V: 4}
	for _, v := range []vector.Vec{
		roomy(),
		roomy(point(stale)),
		roomy(rising()...),
		roomy(point(minus, "a", "1"), point(odd, "a", "2", "b", "1"), full),
		{{L: shared[:0], V: 1}, {L: shared[:1], V: 2}, {L: shared[:2], V: stale}, {L: shared[:3], V: 4}}, // pieces of one list
		{{L: shared[:1:1], V: 1}, {L: shared[:2:2], V: 2}, {L: shared[1:2], V: 3}, {L: shared[2:], V: 4}},
	} {
		was := held(v)
		m := append(make([]api.Matcher, 0, 9), equal("b", "1"), equal("a", "2"), equal("a", "1"))
		wasM := slices.Clone(m[:cap(m)])
		for what, got := range calls(v, m) {
			wantUntouched(t, what, v, was)
			wantApart(t, what, got)
			scrawl(got)
			wantUntouched(t, what+", scrawled upon", v, was)
		}
		v.Right()
		v.Scalar()
		vector.Same(v, v)
		wantUntouched(t, "what answers no vector", v, was)
		if !slices.Equal(m[:cap(m)], wasM) {
			t.Errorf("matchers changed: %v", m[:cap(m)])
		}
	}
}

// TestP2AnswersStay: what is written to what was handed in, or to another answer, is not seen in an answer.
func TestP2AnswersStay(t *testing.T) {
	v := roomy(rising()...)
	want := calls(roomy(rising()...), nil)
	got, other := calls(v, nil), calls(v, nil)
	for _, x := range other {
		scrawl(x)
	}
	scrawl(v)
	for what := range want {
		wantPoints(t, what, got[what], want[what])
	}
}

// TestP3TheSameAgain: nothing is kept from call to call.
func TestP3TheSameAgain(t *testing.T) {
	v := vec(t, rising()...)
	want := calls(v, nil)
	for range 3 {
		for what, got := range calls(v, nil) {
			wantPoints(t, what, got, want[what])
		}
		wantAbsent(t, list("b", "1"), equal("a", "1"), equal("a", "2"), equal("b", "1"))
	}
}

// TestP8WhatMayNotBe: of points that are no vector, and of matchers that may be no set's, no more is promised
// than an end without a panic, and that nothing is changed.
func TestP8WhatMayNotBe(t *testing.T) {
	for _, l := range wrong() {
		for _, v := range []vector.Vec{
			roomy(api.Point{L: l, V: odd}),
			roomy(api.Point{L: l, V: 1}, api.Point{L: l, V: 2}, point(3)),
			roomy(point(2, "z", "1"), api.Point{L: l, V: 1}, point(3)),
		} {
			was := held(v)
			for what, got := range calls(v, nil) {
				scrawl(got)
				wantUntouched(t, what, v, was)
			}
			v.Scalar()
			vector.Same(v, v)
			wantUntouched(t, "what answers no vector", v, was)
		}
		var m []api.Matcher
		for _, x := range l {
			m = append(m, equal(x.Name, x.Value))
		}
		vector.Vec(nil).Absent(m...)
	}
	vector.Vec(nil).Absent(api.Matcher{}, api.Matcher{Kind: 9, Name: "a", Value: "1"}, equal("", "1"))
}
