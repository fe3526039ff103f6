package agg_test

import (
	"fmt"
	"math"
	"slices"
	"strings"
	"testing"

	"isobar/agg"
	"isobar/api"
	"isobar/labels"
	"isobar/vector"
)

var (
	inf   = math.Inf(1)
	minus = math.Copysign(0, -1)
	nan   = math.Float64frombits(0x7FF8000000000001)
	stale = math.Float64frombits(0x7FF0000000000002)
	odd   = math.Float64frombits(0xFFF8000000000007)
	least = math.SmallestNonzeroFloat64
	most  = math.MaxFloat64
)

// numbers are values of all kinds.
func numbers() []float64 {
	return []float64{0, minus, 1, -1, 2, -2.5, 0.1, 3, 1e16, least, -least, most, -most, inf, -inf, nan, stale, odd}
}

// list answers labels of names and values that take turns.
func list(l ...string) []api.Label {
	var out []api.Label
	for i := 0; i < len(l); i += 2 {
		out = append(out, api.Label{Name: l[i], Value: l[i+1]})
	}
	return out
}

func point(v float64, l ...string) api.Point {
	return api.Point{L: list(l...), V: v}
}

func by(names ...string) api.Group {
	return api.Group{How: api.By, Names: names}
}

func without(names ...string) api.Group {
	return api.Group{How: api.Without, Names: names}
}

// many answers n names of labels.
func many(n int) []string {
	var out []string
	for i := range n {
		out = append(out, fmt.Sprintf("n%02d", i))
	}
	return out
}

// canonBits are v's bits, those of the common NaN in place of all: written here apart from the program.
func canonBits(v float64) uint64 {
	if math.IsNaN(v) {
		return math.Float64bits(nan)
	}
	return math.Float64bits(v)
}

func show(l []api.Point) string {
	s := ""
	for _, p := range l {
		s += fmt.Sprintf("%s %v (%X); ", labels.Text(p.L), p.V, math.Float64bits(p.V))
	}
	return "[" + s + "]"
}

// wantPoints asks for points, labels and bits; each NaN of got has the common one's.
func wantPoints(t *testing.T, what string, got, want []api.Point) {
	t.Helper()
	same := len(got) == len(want)
	for i := 0; same && i < len(got); i++ {
		same = slices.Equal(got[i].L, want[i].L) && math.Float64bits(got[i].V) == canonBits(want[i].V)
	}
	if !same {
		t.Errorf("%s: %s instead of %s", what, show(got), show(want))
	}
}

func wantVec(t *testing.T, what string, got vector.Vec, err api.Errno, want ...api.Point) {
	t.Helper()
	if err != api.OK {
		t.Errorf("%s: %v", what, err)
	}
	wantPoints(t, what, got, want)
}

func wantErr(t *testing.T, what string, got vector.Vec, err, want api.Errno) {
	t.Helper()
	if err != want || len(got) != 0 {
		t.Errorf("%s: %s, %v instead of %v", what, show(got), err, want)
	}
}

// vec answers a vector of points in any order.
func vec(t *testing.T, l ...api.Point) vector.Vec {
	t.Helper()
	v, err := vector.Normal(l...)
	if err != api.OK {
		t.Fatalf("%s: %v", show(l), err)
	}
	return v
}

// column answers a vector of these values, in this order, each with a label of its own.
func column(l ...float64) vector.Vec {
	var v vector.Vec
	for i, x := range l {
		v = append(v, point(x, "i", fmt.Sprintf("%03d", i)))
	}
	return v
}

// scatter answers n numbers from 0 to below bound, the same ones in each run of the same seed.
func scatter(seed uint64, n, bound int) []int {
	l, x := make([]int, n), seed
	for i := range l {
		x = x*6364136223846793005 + 1442695040888963407
		l[i] = int((x ^ x>>29) % uint64(bound))
	}
	return l
}

// order compares labels apart from the program: by name, then by value, the shorter first.
func order(a, b []api.Label) int {
	return slices.CompareFunc(a, b, func(x, y api.Label) int {
		if x.Name != y.Name {
			return strings.Compare(x.Name, y.Name)
		}
		return strings.Compare(x.Value, y.Value)
	})
}

// pool answers points in order, of all that few names and values make, with values of all kinds.
func pool(seed uint64) vector.Vec {
	var v vector.Vec
	kinds := numbers()
	n := scatter(seed, 64, len(kinds))
	for _, a := range []string{"", "1", "2"} {
		for _, b := range []string{"", "1", "2"} {
			for _, m := range []string{"", "m", "n"} {
				l := list("a", a, api.Name, m, "b", b)
				l = slices.DeleteFunc(l, func(x api.Label) bool { return x.Value == "" })
				slices.SortFunc(l, func(x, y api.Label) int { return strings.Compare(x.Name, y.Name) })
				v = append(v, api.Point{L: l, V: kinds[n[len(v)]]})
			}
		}
	}
	slices.SortFunc(v, func(p, q api.Point) int { return order(p.L, q.L) })
	return v
}

// some answers about half of the points of v, in their order.
func some(seed uint64, v vector.Vec) vector.Vec {
	var out vector.Vec
	for i, n := range scatter(seed, len(v), 1<<20) {
		if n&64 == 0 {
			out = append(out, v[i])
		}
	}
	return out
}

// groups are ways to group the points of pool.
func groups() []api.Group {
	return []api.Group{
		{}, by(), by("a"), by("b"), by("b", "a"), by(api.Name), by(api.Name, "b"), by("a", "b", api.Name), by("zz"), by("zz", "a"),
		without(), without("a"), without("a", "b"), without(api.Name), without("b", api.Name), without("zz"),
		{Names: []string{}},
	}
}

// wantedLabels are the labels that l is grouped by.
func wantedLabels(l []api.Label, g api.Group) []api.Label {
	return slices.DeleteFunc(slices.Clone(l), func(x api.Label) bool {
		switch g.How {
		case api.By:
			return !slices.Contains(g.Names, x.Name)
		case api.Without:
			return x.Name == api.Name || slices.Contains(g.Names, x.Name)
		}
		return true
	})
}

// wantedValue is what op makes of values, of which there is at least one.
func wantedValue(op int, v []float64) float64 {
	sum, low, high := v[0], v[0], v[0]
	for _, x := range v[1:] {
		sum = sum + x
		if math.IsNaN(low) || low > x {
			low = x
		}
		if math.IsNaN(high) || high < x {
			high = x
		}
	}
	return map[int]float64{api.ASum: sum, api.ACount: float64(len(v)), api.AMin: low, api.AMax: high, api.AAvg: sum / float64(len(v)), api.AGroup: 1}[op]
}

// above tells whether x is above y, both numbers: 0 is above -0.
func above(x, y float64) bool {
	return x > y || x == y && math.Signbit(y) && !math.Signbit(x)
}

// wantedPoints are the k points of p that op chooses, sought one by one: a point gives way just to a better one.
func wantedPoints(op int, k float64, p []api.Point) []api.Point {
	rest := slices.Clone(p)
	var out []api.Point
	for len(rest) > 0 && float64(len(out)+1) <= k {
		at := 0
		for i, q := range rest {
			x, y := q.V, rest[at].V
			if op == api.ABottom {
				x, y = -x, -y
			}
			if !math.IsNaN(x) && (math.IsNaN(y) || above(x, y)) {
				at = i
			}
		}
		out = append(out, rest[at])
		rest = slices.Delete(rest, at, at+1)
	}
	return out
}

// wanted is what Agg is to answer of a vector, found apart from the program.
func wanted(op int, g api.Group, k float64, v vector.Vec) []api.Point {
	var out []api.Point
	done := make([]bool, len(v))
	for i := range v {
		l := wantedLabels(v[i].L, g)
		var points []api.Point
		var values []float64
		for j := i; j < len(v); j++ {
			if !done[j] && slices.Equal(wantedLabels(v[j].L, g), l) {
				done[j] = true
				points, values = append(points, v[j]), append(values, v[j].V)
			}
		}
		switch {
		case len(points) == 0:
		case op == api.ATop || op == api.ABottom:
			out = append(out, wantedPoints(op, k, points)...)
		default:
			out = append(out, api.Point{L: l, V: wantedValue(op, values)})
		}
	}
	slices.SortFunc(out, func(p, q api.Point) int { return order(p.L, q.L) })
	return out
}

// TestP1001AggOfAll: each aggregation, by many groups, of many vectors.
func TestP1001AggOfAll(t *testing.T) {
	for seed := range uint64(60) {
		v := some(seed, pool(seed+1000))
		for op := api.ASum; op <= api.AGroup; op++ {
			for i, g := range groups() {
				k := []float64{1, 2, 3.5, 5, inf, 0}[(i+int(seed))%6]
				got, err := agg.Agg(op, g, k, v)
				wantVec(t, fmt.Sprintf("%d by %v, k %v, of %s", op, g, k, show(v)), got, err, wanted(op, g, k, v)...)
				if !got.Right() {
					t.Errorf("%d by %v: not Right: %s", op, g, show(got))
				}
			}
		}
	}
}

// TestP1001AggOfThree: each aggregation of each three values, of all kinds.
func TestP1001AggOfThree(t *testing.T) {
	for _, x := range numbers() {
		for _, y := range numbers() {
			for _, z := range numbers() {
				v := column(x, y, z)
				for op := api.ASum; op <= api.AGroup; op++ {
					got, err := agg.Agg(op, api.Group{}, 2, v)
					wantVec(t, fmt.Sprintf("%d of %v, %v, %v", op, x, y, z), got, err, wanted(op, api.Group{}, 2, v)...)
				}
				for _, op := range []int{api.ATop, api.ABottom} {
					got, err := agg.Agg(op, api.Group{}, 1, v)
					wantVec(t, fmt.Sprintf("%d of one of %v, %v, %v", op, x, y, z), got, err, wanted(op, api.Group{}, 1, v)...)
				}
			}
		}
	}
}

func wantOne(t *testing.T, op int, want float64, l ...float64) {
	t.Helper()
	got, err := agg.Agg(op, api.Group{}, 1, column(l...))
	wantVec(t, fmt.Sprintf("%d of %v", op, l), got, err, point(want))
}

func TestP1001Values(t *testing.T) {
	wantOne(t, api.ASum, 6, 1, 2, 3)
	wantOne(t, api.AAvg, 2, 1, 2, 3)
	wantOne(t, api.ACount, 3, 1, 2, 3)
	wantOne(t, api.AMin, 1, 2, 1, 3)
	wantOne(t, api.AMax, 3, 2, 3, 1)
	wantOne(t, api.AGroup, 1, 5, 6)
	// Sums go from the left, from the first one on, each step rounded.
	wantOne(t, api.ASum, 0, 1e16, 1, -1e16)
	wantOne(t, api.ASum, 1, 1e16, -1e16, 1)
	wantOne(t, api.ASum, 0.30000000000000004, 0.1, 0.2)
	wantOne(t, api.ASum, minus, minus, minus)
	wantOne(t, api.ASum, 0, minus, 0)
	wantOne(t, api.ASum, nan, inf, -inf)
	wantOne(t, api.ASum, nan, 1, stale, 1)
	wantOne(t, api.AAvg, minus, minus)
	wantOne(t, api.AAvg, inf, most, most)
	wantOne(t, api.AAvg, 0, 1e16, 1, -1e16)
	wantOne(t, api.AAvg, nan, odd)
	wantOne(t, api.ACount, 4, nan, stale, inf, 0)
	wantOne(t, api.AGroup, 1, nan)
	// As numbers 0 and -0 are equal: the first one stays. A NaN gives way to any.
	wantOne(t, api.AMin, 0, 0, minus)
	wantOne(t, api.AMin, minus, minus, 0)
	wantOne(t, api.AMax, 0, 0, minus)
	wantOne(t, api.AMax, minus, minus, 0)
	wantOne(t, api.AMin, 2, nan, 2, 3, nan)
	wantOne(t, api.AMax, 3, nan, 2, 3, nan)
	wantOne(t, api.AMin, inf, stale, inf)
	wantOne(t, api.AMax, -inf, odd, -inf)
	wantOne(t, api.AMin, nan, stale, odd)
	wantOne(t, api.AMax, nan, stale)
}

// wantChosen asks which places of column's values are chosen.
func wantChosen(t *testing.T, op int, k float64, values []float64, places ...int) {
	t.Helper()
	v := column(values...)
	var want []api.Point
	for _, i := range places {
		want = append(want, v[i])
	}
	got, err := agg.Agg(op, api.Group{}, k, v)
	wantVec(t, fmt.Sprintf("%d, k %v, of %v", op, k, values), got, err, want...)
}

func TestP1001Chosen(t *testing.T) {
	l := []float64{3, 1, 4, 1, 5, 9, 2, 6}
	wantChosen(t, api.ATop, 1, l, 5)
	wantChosen(t, api.ATop, 2, l, 5, 7)
	wantChosen(t, api.ATop, 3, l, 4, 5, 7)
	wantChosen(t, api.ABottom, 1, l, 1)
	wantChosen(t, api.ABottom, 2, l, 1, 3)
	wantChosen(t, api.ABottom, 3, l, 1, 3, 6)
	// Of the Same value those that stand first, either way.
	same := []float64{7, 7, 7, 7}
	for _, op := range []int{api.ATop, api.ABottom} {
		wantChosen(t, op, 1, same, 0)
		wantChosen(t, op, 2, same, 0, 1)
		wantChosen(t, op, 3, []float64{stale, nan, odd, nan}, 0, 1, 2)
	}
	// 0 and -0 are two.
	noughts := []float64{minus, 0, minus, 0}
	wantChosen(t, api.ATop, 1, noughts, 1)
	wantChosen(t, api.ATop, 2, noughts, 1, 3)
	wantChosen(t, api.ATop, 3, noughts, 0, 1, 3)
	wantChosen(t, api.ABottom, 1, noughts, 0)
	wantChosen(t, api.ABottom, 2, noughts, 0, 2)
	wantChosen(t, api.ABottom, 3, noughts, 0, 1, 2)
	// A NaN is chosen behind all numbers.
	mixed := []float64{nan, inf, stale, -inf, 1}
	wantChosen(t, api.ATop, 1, mixed, 1)
	wantChosen(t, api.ATop, 3, mixed, 1, 3, 4)
	wantChosen(t, api.ATop, 4, mixed, 0, 1, 3, 4)
	wantChosen(t, api.ABottom, 1, mixed, 3)
	wantChosen(t, api.ABottom, 3, mixed, 1, 3, 4)
	wantChosen(t, api.ABottom, 4, mixed, 0, 1, 3, 4)
}

// TestP1001ChosenCount: k downwards; below 1, and NaN: none; beyond all points, and beyond all ints: all.
func TestP1001ChosenCount(t *testing.T) {
	l := []float64{2, 2, 2}
	for _, c := range []struct {
		k    float64
		want int
	}{
		{nan, 0}, {stale, 0}, {odd, 0}, {-inf, 0}, {-most, 0}, {-1e19, 0}, {-3, 0}, {-1, 0}, {minus, 0}, {0, 0}, {least, 0}, {0.5, 0},
		{math.Nextafter(1, 0), 0}, {1, 1}, {1.5, 1}, {math.Nextafter(2, 0), 1}, {2, 2}, {2.9, 2}, {math.Nextafter(3, 0), 2}, {3, 3},
		{3.5, 3}, {4, 3}, {1e9, 3}, {1 << 32, 3}, {1<<32 + 1, 3}, {1 << 53, 3}, {1 << 62, 3}, {1 << 63, 3}, {1e19, 3}, {1 << 64, 3}, {1<<64 + 1<<20, 3}, {most, 3}, {inf, 3},
	} {
		for _, op := range []int{api.ATop, api.ABottom} {
			wantChosen(t, op, c.k, l, []int{0, 1, 2}[:c.want]...)
			got, err := agg.Agg(op, api.Group{}, c.k, nil)
			wantVec(t, "of none", got, err)
		}
	}
}

// TestP1001ChosenLabels: the points that are chosen have their own labels, the metric's name among them.
func TestP1001ChosenLabels(t *testing.T) {
	v := vec(t, point(1, api.Name, "m", "a", "1"), point(2, api.Name, "n", "a", "1"), point(3, api.Name, "m", "a", "2"), point(4, "a", "2", "b", "1"), point(5))
	got, err := agg.Agg(api.ATop, by("a"), 1, v)
	wantVec(t, "top by a", got, err, point(5), point(2, api.Name, "n", "a", "1"), point(4, "a", "2", "b", "1"))
	got, err = agg.Agg(api.ABottom, by("a"), 1, v)
	wantVec(t, "bottom by a", got, err, point(5), point(1, api.Name, "m", "a", "1"), point(3, api.Name, "m", "a", "2"))
	got, err = agg.Agg(api.ABottom, without("a"), 2, v)
	wantVec(t, "bottom without a", got, err, point(1, api.Name, "m", "a", "1"), point(2, api.Name, "n", "a", "1"), point(4, "a", "2", "b", "1"))
}

func TestP1001Groups(t *testing.T) {
	v := vec(t, point(1, api.Name, "m", "a", "1", "b", "1"), point(2, api.Name, "m", "a", "2", "b", "1"), point(4, api.Name, "n", "a", "1"), point(8, "b", "2"))
	for _, c := range []struct {
		g    api.Group
		want []api.Point
	}{
		{api.Group{}, []api.Point{point(15)}},
		{by(), []api.Point{point(15)}},
		{by("zz"), []api.Point{point(15)}},
		{by("a"), []api.Point{point(8), point(5, "a", "1"), point(2, "a", "2")}},
		{by("b", "a"), []api.Point{point(4, "a", "1"), point(1, "a", "1", "b", "1"), point(2, "a", "2", "b", "1"), point(8, "b", "2")}},
		{by(api.Name), []api.Point{point(8), point(3, api.Name, "m"), point(4, api.Name, "n")}},
		{without(), []api.Point{point(4, "a", "1"), point(1, "a", "1", "b", "1"), point(2, "a", "2", "b", "1"), point(8, "b", "2")}},
		{without("a"), []api.Point{point(4), point(3, "b", "1"), point(8, "b", "2")}},
		{without("b", "a", "zz"), []api.Point{point(15)}},
	} {
		got, err := agg.Agg(api.ASum, c.g, 0, v)
		wantVec(t, fmt.Sprintf("sum by %v", c.g), got, err, c.want...)
	}
	for op := api.ASum; op <= api.AGroup; op++ {
		for _, g := range groups() {
			for _, none := range []vector.Vec{nil, {}} {
				got, err := agg.Agg(op, g, 1, none)
				wantVec(t, "of none", got, err)
			}
		}
	}
}

// TestP1001GroupsApart: names and values that run together are told apart.
func TestP1001GroupsApart(t *testing.T) {
	v := vec(t, point(1, "a", "1b", "b", "2"), point(2, "a", "1", "b", "b2"), point(4, "a", "1:1:b1:2"), point(8, "a", "1", "b", "2"), point(16, "a1", "b", "b", "2"), point(32, "a", "\x00"), point(64, "a", "\xff"), point(128, "a", "1,b"))
	got, err := agg.Agg(api.ASum, without("zz"), 0, v)
	wantVec(t, "all apart", got, err, v...)
}

// TestP1001ManyPoints: the values of a large group keep their order, and those of the Same value theirs.
func TestP1001ManyPoints(t *testing.T) {
	kinds := []float64{1, 0.1, 3, 1e16, -1e16, 2}
	var v vector.Vec
	for i, n := range scatter(5, 1200, len(kinds)) {
		v = append(v, point(kinds[n], "a", fmt.Sprintf("%02d", i/60), "b", fmt.Sprintf("%04d", i)))
	}
	for _, g := range []api.Group{{}, by("a"), without("b")} {
		for op := api.ASum; op <= api.AGroup; op++ {
			got, err := agg.Agg(op, g, 40, v)
			wantVec(t, fmt.Sprintf("%d by %v", op, g), got, err, wanted(op, g, 40, v)...)
		}
	}
	got, err := agg.Agg(api.ASum, without("zz"), 0, v)
	wantVec(t, "as many groups as points", got, err, v...)
}

// strangers are numbers of no aggregation.
func strangers() []int {
	return []int{math.MinInt, -8, -1, 0, 9, 10, 1 << 32, 1<<32 + 1, math.MaxInt}
}

func TestP1001AggOfNone(t *testing.T) {
	for _, op := range strangers() {
		for _, v := range []vector.Vec{nil, vector.Of(1), pool(1)} {
			for _, g := range append(groups(), api.Group{How: 3}) {
				got, err := agg.Agg(op, g, 1, v)
				wantErr(t, fmt.Sprintf("%d by %v", op, g), got, err, api.ErrArg)
			}
		}
	}
}

// refused are groups that may not be.
func refused() []api.Group {
	l := []api.Group{{Names: []string{"a"}}, {Names: []string{""}}, {Names: many(api.MaxNames)}, {Names: many(api.MaxNames + 1)}}
	for _, how := range []int{math.MinInt, -1, 3, 4, 1 << 32, 1<<32 + 1, math.MaxInt} {
		l = append(l, api.Group{How: how}, api.Group{How: how, Names: []string{"a"}})
	}
	for _, how := range []int{api.By, api.Without} {
		for _, name := range []string{"", "1", "9a", "a-b", "a b", "a\x00", "\u00e4", strings.Repeat("n", api.MaxName+1)} {
			l = append(l, api.Group{How: how, Names: []string{name}}, api.Group{How: how, Names: []string{"a", name}}, api.Group{How: how, Names: []string{name, "a"}})
		}
		l = append(l,
			api.Group{How: how, Names: []string{"a", "a"}},
			api.Group{How: how, Names: []string{api.Name, api.Name}},
			api.Group{How: how, Names: []string{"a", "b", "a"}},
			api.Group{How: how, Names: []string{"b", "c", "a", "a"}},
			api.Group{How: how, Names: append(many(api.MaxNames-1), many(1)...)},
			api.Group{How: how, Names: many(api.MaxNames + 1)},
			api.Group{How: how, Names: make([]string, api.MaxNames+1)})
	}
	return l
}

// allowed are groups that may be, at their bounds.
func allowed() []api.Group {
	l := groups()
	for _, how := range []int{api.By, api.Without} {
		long := strings.Repeat("n", api.MaxName)
		l = append(l,
			api.Group{How: how, Names: many(api.MaxNames)},
			api.Group{How: how, Names: []string{long, long[1:]}},
			api.Group{How: how, Names: []string{"a", "A", "_", "aa", "a1"}})
	}
	return l
}

func TestP1001Check(t *testing.T) {
	for _, g := range refused() {
		if err := agg.Check(g); err != api.ErrArg {
			t.Errorf("Check of %v: %v", g, err)
		}
		for op := api.ASum; op <= api.AGroup; op++ {
			for _, v := range []vector.Vec{nil, vector.Of(1), pool(2)} {
				got, err := agg.Agg(op, g, 1, v)
				wantErr(t, fmt.Sprintf("%d by %v", op, g), got, err, api.ErrArg)
			}
		}
	}
	for _, g := range allowed() {
		if err := agg.Check(g); err != api.OK {
			t.Errorf("Check of %v: %v", g, err)
		}
		for op := api.ASum; op <= api.AGroup; op++ {
			v := pool(3)
			got, err := agg.Agg(op, g, 1, v)
			wantVec(t, fmt.Sprintf("%d by %v", op, g), got, err, wanted(op, g, 1, v)...)
		}
	}
}

// TestP1CheckOfVeryMany: names far beyond their most are refused without being held against each other.
func TestP1CheckOfVeryMany(t *testing.T) {
	names := make([]string, 1<<20)
	for i := range names {
		names[i] = fmt.Sprintf("n%d", i)
	}
	for range 100 {
		if err := agg.Check(by(names...)); err != api.ErrArg {
			t.Fatalf("Check: %v", err)
		}
	}
}

// TestP1001Full: labels as many and as long as may be.
func TestP1001Full(t *testing.T) {
	var l []api.Label
	for _, name := range many(api.MaxNames) {
		l = append(l, api.Label{Name: name, Value: strings.Repeat("v", api.MaxValue)})
	}
	other := slices.Clone(l)
	other[api.MaxNames-1].Value = "w"
	v := vec(t, api.Point{L: l, V: 1}, api.Point{L: other, V: 2})
	got, err := agg.Agg(api.ASum, by(many(api.MaxNames)...), 0, v)
	wantVec(t, "by all", got, err, v...)
	got, err = agg.Agg(api.ASum, by(many(api.MaxNames-1)...), 0, v)
	wantVec(t, "by all but one", got, err, api.Point{L: l[:api.MaxNames-1], V: 3})
	got, err = agg.Agg(api.ASum, without(many(api.MaxNames)...), 0, v)
	wantVec(t, "without all", got, err, point(3))
}

// TestP1001UnusedK: those that need no k don't ask for it.
func TestP1001UnusedK(t *testing.T) {
	v := pool(4)
	for op := api.ASum; op <= api.AGroup; op++ {
		if op == api.ATop || op == api.ABottom {
			continue
		}
		for _, k := range numbers() {
			got, err := agg.Agg(op, by("a"), k, v)
			wantVec(t, fmt.Sprintf("%d, k %v", op, k), got, err, wanted(op, by("a"), 1, v)...)
		}
	}
}

func TestP1002Names(t *testing.T) {
	names := map[int]string{api.ASum: "sum", api.ACount: "count", api.AMin: "min", api.AMax: "max", api.AAvg: "avg", api.ATop: "topk", api.ABottom: "bottomk", api.AGroup: "group"}
	for op, want := range names {
		if s := agg.Name(op); s != want {
			t.Errorf("Name of %d: %q", op, s)
		}
		if n, ok := agg.Named(want); n != op || !ok {
			t.Errorf("Named of %q: %d, %v", want, n, ok)
		}
		for _, s := range []string{want + " ", " " + want, want + "s", want[1:], want[:len(want)-1], strings.ToUpper(want), want + "\x00", want + "_over_time"} {
			if n, ok := agg.Named(s); n != 0 || ok {
				t.Errorf("Named of %q: %d, %v", s, n, ok)
			}
		}
		if agg.Takes(op) != (want == "topk" || want == "bottomk") {
			t.Errorf("Takes of %s: %v", want, agg.Takes(op))
		}
	}
	for _, op := range strangers() {
		if s := agg.Name(op); s != "" || agg.Takes(op) {
			t.Errorf("Name of %d: %q; Takes: %v", op, s, agg.Takes(op))
		}
	}
	for _, s := range []string{"", "top", "k", "bottom", "abs", "stddev", "by", "without", "\xff", "1"} {
		if n, ok := agg.Named(s); n != 0 || ok {
			t.Errorf("Named of %q: %d, %v", s, n, ok)
		}
	}
}

// roomy answers a vector with spare room behind its points and behind the labels of each, all of it filled.
func roomy(l ...api.Point) vector.Vec {
	v := slices.Grow(vector.Vec{}, len(l)+3)
	for _, p := range l {
		room := append(slices.Grow([]api.Label{}, len(p.L)+3), p.L...)
		spare := room[len(room):cap(room)]
		for i := range spare {
			spare[i] = api.Label{Name: "spare", Value: "label"}
		}
		v = append(v, api.Point{L: room, V: p.V})
	}
	spare := v[len(v):cap(v)]
	for i := range spare {
		spare[i] = point(77, "spare", "point")
	}
	return v
}

// held is all of v, its spare room too, to be held against what it is later.
func held(v vector.Vec) []api.Point {
	var l []api.Point
	for _, p := range v[:cap(v)] {
		l = append(l, api.Point{L: slices.Clone(p.L[:cap(p.L)]), V: p.V})
	}
	return l
}

func wantUntouched(t *testing.T, what string, v vector.Vec, was []api.Point) {
	t.Helper()
	same := func(p, q api.Point) bool {
		return slices.Equal(p.L, q.L) && math.Float64bits(p.V) == math.Float64bits(q.V)
	}
	if now := held(v); !slices.EqualFunc(now, was, same) {
		t.Errorf("%s: changed: %s instead of %s", what, show(now), show(was))
	}
}

// scrawl writes over all of a vector, over its spare room, and over that of its labels.
func scrawl(v vector.Vec) {
	v = v[:cap(v)]
	for i := range v {
		l := v[i].L[:cap(v[i].L)]
		for j := range l {
			l[j] = api.Label{Name: "scrawl", Value: "all"}
		}
		v[i] = point(99, "scrawl", "point")
	}
}

// wantApart asks that no two points of v share memory: what is written to one is not seen in another.
func wantApart(t *testing.T, what string, v vector.Vec) {
	t.Helper()
	for i, p := range v {
		was := held(v)
		l := p.L[:cap(p.L)]
		for j := range l {
			l[j].Value = fmt.Sprintf("point %d", i)
		}
		now := held(v)
		for k := range was {
			if k != i && !slices.Equal(now[k].L, was[k].L) {
				t.Errorf("%s: points %d and %d share labels", what, i, k)
			}
		}
	}
}

// calls are all aggregations of v, by all groups.
func calls(v vector.Vec, groups []api.Group) map[string]vector.Vec {
	out := map[string]vector.Vec{}
	for op := api.ASum; op <= api.AGroup; op++ {
		for i, g := range groups {
			out[fmt.Sprintf("%d by %d", op, i)], _ = agg.Agg(op, g, 3, v)
		}
	}
	return out
}

// TestP2WhatIsHandedInStays: neither a call nor what is written to its answer changes what was handed in, nor
// its spare room; and no two points of an answer share any.
func TestP2WhatIsHandedInStays(t *testing.T) {
	shared := list("x", "1", "y", "2", "z", "3")
	for _, v := range []vector.Vec{
		roomy(),
		roomy(point(stale)),
		roomy(pool(6)...),
		roomy(point(minus, "a", "1"), point(odd, "a", "2", "b", "1")),
		{{L: shared[:0], V: 1}, {L: shared[:1], V: 2}, {L: shared[:2], V: stale}, {L: shared[:3], V: 4}}, // pieces of one list
		{{L: shared[:1:1], V: 9}, {L: shared[:2:2], V: 2}, {L: shared[1:2], V: 3}, {L: shared[2:], V: 4}},
	} {
		was := held(v)
		for what, got := range calls(v, groups()) {
			wantUntouched(t, what, v, was)
			wantApart(t, what, got)
			scrawl(got)
			wantUntouched(t, what+", scrawled upon", v, was)
		}
	}
	names := append(make([]string, 0, 5), "b", "a", "z")
	wasNames := slices.Clone(names[:cap(names)])
	for _, how := range []int{0, api.By, api.Without, 3} {
		agg.Check(api.Group{How: how, Names: names})
		calls(pool(7), []api.Group{{How: how, Names: names}})
		if !slices.Equal(names[:cap(names)], wasNames) {
			t.Errorf("names changed: %q", names[:cap(names)])
		}
	}
}

// TestP2AnswersStay: what is written to what was handed in, or to another answer, is not seen in an answer.
func TestP2AnswersStay(t *testing.T) {
	v := roomy(pool(8)...)
	want := calls(roomy(pool(8)...), groups())
	got, other := calls(v, groups()), calls(v, groups())
	for _, x := range other {
		scrawl(x)
	}
	scrawl(v)
	for what := range want {
		wantPoints(t, what, got[what], want[what])
	}
}

// TestP3TheSameAgain: the order of a map is not seen, and nothing is kept from call to call.
func TestP3TheSameAgain(t *testing.T) {
	v := pool(9)
	want := calls(v, groups())
	for range 10 {
		for what, got := range calls(v, groups()) {
			wantPoints(t, what, got, want[what])
		}
	}
}

// TestP8WhatMayNotBe: of points that are no vector no more is promised than an end without a panic, that
// nothing is changed, and nothing beside an error.
func TestP8WhatMayNotBe(t *testing.T) {
	for _, l := range [][]api.Label{
		list("b", "1", "a", "1"),
		list("a", "1", "a", "1"),
		list("a", "", "b", "1"),
		list("", "1"),
		list("1", "\x00"),
		list("a", strings.Repeat("v", api.MaxValue+1)),
	} {
		for _, v := range []vector.Vec{
			roomy(api.Point{L: l, V: odd}),
			roomy(api.Point{L: l, V: 1}, api.Point{L: l, V: 2}, point(3)),
			roomy(point(2, "z", "1"), api.Point{L: l, V: 1}, point(3), point(3)),
		} {
			was := held(v)
			for op := api.ASum; op <= api.AGroup; op++ {
				for _, g := range groups() {
					got, err := agg.Agg(op, g, 2, v)
					if err != api.OK && len(got) != 0 {
						t.Errorf("%d by %v: %s beside %v", op, g, show(got), err)
					}
					scrawl(got)
					wantUntouched(t, fmt.Sprintf("%d by %v", op, g), v, was)
				}
			}
		}
	}
}
