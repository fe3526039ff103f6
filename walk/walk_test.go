package walk_test

import (
	"fmt"
	"math"
	"regexp"
	"slices"
	"strings"
	"testing"

	"isobar/agg"
	"isobar/api"
	"isobar/fval"
	"isobar/ir"
	"isobar/join"
	"isobar/labels"
	"isobar/store"
	"isobar/vector"
	"isobar/walk"
	"isobar/window"
)

var (
	inf   = math.Inf(1)
	minus = math.Copysign(0, -1)
	nan   = math.Float64frombits(0x7FF8000000000001)
	stale = math.Float64frombits(0x7FF0000000000002)
	odd   = math.Float64frombits(0xFFF8000000000007)
)

const roomyMost = 1000

// list answers labels of names and values that take turns.
func list(l ...string) []api.Label {
	var out []api.Label
	for i := 0; i < len(l); i += 2 {
		out = append(out, api.Label{Name: l[i], Value: l[i+1]})
	}
	return out
}

// metric answers labels with a metric's name.
func metric(name string, l ...string) []api.Label {
	return append(list(api.Name, name), list(l...)...)
}

func point(v float64, l ...string) api.Point {
	return api.Point{L: list(l...), V: v}
}

// raws answers samples of one series, of times and values that take turns.
func raws(l []api.Label, s ...float64) []store.Raw {
	var out []store.Raw
	for i := 0; i < len(s); i += 2 {
		out = append(out, store.Raw{L: l, T: int(s[i]), V: s[i+1]})
	}
	return out
}

func storeOf(t *testing.T, l ...[]store.Raw) *store.Store {
	t.Helper()
	s, err := store.New(slices.Concat(l...)...)
	if err != api.OK {
		t.Fatal(err)
	}
	return s
}

func equal(name, value string) api.Matcher {
	return api.Matcher{Kind: api.Equal, Name: name, Value: value}
}

func like(name, value string) api.Matcher {
	return api.Matcher{Kind: api.Like, Name: name, Value: value}
}

func named(name string) []api.Matcher {
	return []api.Matcher{equal(api.Name, name)}
}

func num(v float64) ir.Node {
	return ir.Node{Kind: ir.Const, Num: v}
}

func now() ir.Node {
	return ir.Node{Kind: ir.Time}
}

func empty() ir.Node {
	return ir.Node{Kind: ir.Empty}
}

func sel(name string) ir.Node {
	return ir.Node{Kind: ir.Select, M: named(name)}
}

// win answers a Window; sub a Sub, of a kid.
func win(fn int, name string, length, offset int) ir.Node {
	return ir.Node{Kind: ir.Window, Fn: fn, M: named(name), Range: length, Offset: offset}
}

func sub(fn, length, step, offset int, k ir.Node) ir.Node {
	return on(ir.Node{Kind: ir.Sub, Fn: fn, Range: length, Step: step, Offset: offset}, k)
}

func on(n ir.Node, kids ...ir.Node) ir.Node {
	n.Kids = kids
	return n
}

func mapped(fn int, v float64, k ir.Node) ir.Node {
	return on(ir.Node{Kind: ir.Map, Fn: fn, Num: v}, k)
}

func op(fn int, a, b ir.Node) ir.Node {
	return on(ir.Node{Kind: ir.Binary, Fn: fn}, a, b)
}

func flagged(n ir.Node) ir.Node {
	n.Flag = true
	return n
}

func grouped(fn int, g api.Group, k float64, kid ir.Node) ir.Node {
	return on(ir.Node{Kind: ir.Agg, Fn: fn, G: g, Num: k}, kid)
}

func label(name, value string, k ir.Node) ir.Node {
	return on(ir.Node{Kind: ir.Label, Name: name, Value: value}, k)
}

func absent(k ir.Node, m ...api.Matcher) ir.Node {
	return on(ir.Node{Kind: ir.Absent, M: m}, k)
}

func toScalar(k ir.Node) ir.Node { return on(ir.Node{Kind: ir.ToScalar}, k) }

func toVector(k ir.Node) ir.Node { return on(ir.Node{Kind: ir.ToVector}, k) }

func by(names ...string) api.Group { return api.Group{How: api.By, Names: names} }

func show(v walk.Value, err api.Errno) string {
	s := fmt.Sprintf("%v %v %v (%X)", err, v.Scalar, v.V, math.Float64bits(v.V))
	for _, p := range v.Vec {
		s += fmt.Sprintf("; %s %v (%X)", labels.Text(p.L), p.V, math.Float64bits(p.V))
	}
	return s
}

func showSeries(l []api.Series, err api.Errno) string {
	s := err.Error()
	for _, x := range l {
		s += "; " + labels.Text(x.L)
		for _, p := range x.S {
			s += fmt.Sprintf(" %d %v (%X)", p.T, p.V, math.Float64bits(p.V))
		}
	}
	return s
}

// canon answers v, of any NaN the common one: written here apart from the program.
func canon(v float64) float64 {
	if math.IsNaN(v) {
		return nan
	}
	return v
}

func wantScalar(t *testing.T, n ir.Node, s *store.Store, at int, want float64) {
	t.Helper()
	v, err := walk.At(n, s, 1, at)
	if got := show(v, err); got != show(walk.Value{Scalar: true, V: want}, api.OK) {
		t.Errorf("%s at %d: %s instead of %v", ir.Text(n), at, got, want)
	}
}

func wantVec(t *testing.T, n ir.Node, s *store.Store, at int, want ...api.Point) {
	t.Helper()
	v, err := walk.At(n, s, roomyMost, at)
	if got := show(v, err); got != show(walk.Value{Vec: want}, api.OK) {
		t.Errorf("%s at %d: %s instead of %s", ir.Text(n), at, got, show(walk.Value{Vec: want}, api.OK))
	}
}

func wantErr(t *testing.T, n ir.Node, s *store.Store, most, at int, want api.Errno) {
	t.Helper()
	v, err := walk.At(n, s, most, at)
	if got := show(v, err); got != show(walk.Value{}, want) {
		t.Errorf("%s at %d, most %d: %s instead of %v", ir.Text(n), at, most, got, want)
	}
}

func wantQuery(t *testing.T, n ir.Node, s *store.Store, most int, g api.Grid, want ...api.Series) {
	t.Helper()
	l, err := walk.Query(n, s, most, g)
	if got := showSeries(l, err); got != showSeries(want, api.OK) {
		t.Errorf("%s at %v: %s instead of %s", ir.Text(n), g, got, showSeries(want, api.OK))
	}
}

func wantQueryErr(t *testing.T, n ir.Node, s *store.Store, most int, g api.Grid, want api.Errno) {
	t.Helper()
	l, err := walk.Query(n, s, most, g)
	if got := showSeries(l, err); got != showSeries(nil, want) {
		t.Errorf("%s at %v, most %d: %s instead of %v", ir.Text(n), g, most, got, want)
	}
}

// few answers a store with: m of x 1 and 2, each second a value that rises, n of x 1 at 0 alone, d1 and d2 that
// are one series without their names.
func few(t *testing.T) *store.Store {
	t.Helper()
	return storeOf(t,
		raws(metric("m", "x", "1"), 0, 0, 1000, 1, 2000, 2, 3000, 3, 4000, 4),
		raws(metric("m", "x", "2"), 0, 0, 1000, 10, 2000, 20, 3000, 30, 4000, 40),
		raws(metric("n", "x", "1"), 0, 5),
		raws(metric("d1", "k", "d", "y", "1"), 0, 1, 2000, 7),
		raws(metric("d2", "k", "d", "y", "1"), 0, 2, 2000, 8))
}

// dup answers a plan that is ErrDup wherever d1 and d2 are there; many one that is ErrMany where m is.
func dup() ir.Node {
	return mapped(api.FAbs, 0, ir.Node{Kind: ir.Select, M: []api.Matcher{equal("k", "d")}})
}

func many() ir.Node {
	n := op(api.Add, sel("m"), sel("m"))
	n.X = api.Match{G: by("k")}
	return n
}

// TestP1301Args: most and t at their bounds, and past them, ahead of what is wrong with the plan.
func TestP1301Args(t *testing.T) {
	s := few(t)
	for _, most := range []int{math.MinInt, -1, 0, 1<<20 + 1, math.MaxInt} {
		wantErr(t, num(1), s, most, 0, api.ErrArg)
		wantErr(t, op(api.Add, num(1), empty()), s, most, 0, api.ErrArg)
		wantErr(t, op(api.And, num(1), num(1)), s, most, 0, api.ErrArg)
		wantQueryErr(t, op(api.And, num(1), num(1)), s, most, api.Grid{Step: 1}, api.ErrArg)
	}
	for _, at := range []int{math.MinInt, -1<<50 - 1, 1<<50 + 1, math.MaxInt} {
		wantErr(t, num(1), s, 1, at, api.ErrArg)
		wantErr(t, op(api.And, num(1), num(1)), s, 1, at, api.ErrArg)
	}
	for _, most := range []int{1, 2, 1 << 20} {
		for _, at := range []int{-1 << 50, 0, 1 << 50} {
			v, err := walk.At(now(), s, most, at)
			if got := show(v, err); got != show(walk.Value{Scalar: true, V: float64(at) / 1000}, api.OK) {
				t.Errorf("most %d, at %d: %s", most, at, got)
			}
		}
	}
}

// TestP1301Check: what ir.Check says of a plan is said ahead of any value.
func TestP1301Check(t *testing.T) {
	s := few(t)
	deep := num(1)
	for range api.MaxDepth {
		deep = mapped(api.FAbs, 0, deep)
	}
	wide := num(1)
	for range 9 {
		wide = op(api.Add, wide, wide)
	}
	for _, c := range []struct {
		n    ir.Node
		want api.Errno
	}{
		{ir.Node{}, api.ErrArg}, {ir.Node{Kind: 14}, api.ErrArg}, {on(num(1), num(2)), api.ErrArg},
		{ir.Node{Kind: ir.Select, M: []api.Matcher{like("x", "(")}}, api.ErrForm},
		{ir.Node{Kind: ir.Select, Offset: api.MaxTime + 1}, api.ErrArg},
		{op(api.And, num(1), num(2)), api.ErrType}, {toScalar(num(1)), api.ErrType}, {toVector(empty()), api.ErrType},
		{sub(api.WSum, 1001, 1, 0, num(1)), api.ErrLimit}, {deep, api.ErrLimit}, {wide, api.ErrLimit},
		{op(api.Add, dup(), toScalar(num(1))), api.ErrType},
	} {
		wantErr(t, c.n, s, 5, 0, c.want)
		wantQueryErr(t, c.n, s, 5, api.Grid{Step: 1}, c.want)
	}
	wantScalar(t, deep.Kids[0], s, 0, 1)
	wantScalar(t, wide.Kids[0].Kids[0], s, 0, 128)
}

// TestP1301Const: the number, Canon; whatever the time.
func TestP1301Const(t *testing.T) {
	s := few(t)
	for _, v := range []float64{0, minus, 1, -2.5, 5e-324, math.MaxFloat64, inf, -inf, nan, stale, odd} {
		for _, at := range []int{-5, 0, 1 << 50} {
			wantScalar(t, num(v), s, at, canon(v))
		}
	}
}

// TestP1301Time: a time's number of seconds, rounded once.
func TestP1301Time(t *testing.T) {
	s := few(t)
	for at, want := range map[int]float64{0: 0, 1: 0.001, -1: -0.001, 999: 0.999, 1000: 1, 2500: 2.5, -123457: -123.457, 1 << 50: 1125899906842.624, -1 << 50: -1125899906842.624} {
		wantScalar(t, now(), s, at, want)
	}
}

// TestP1301Select: the last sample of less than the lookback ago, labels as they are.
func TestP1301Select(t *testing.T) {
	s := storeOf(t,
		raws(metric("m", "x", "1"), 0, 1, 10, 2, 400000, 3),
		raws(metric("m", "x", "2"), 5, 4, 20, stale, 30, odd),
		raws(list("x", "1"), 0, 6))
	m1 := func(v float64) api.Point { return api.Point{L: metric("m", "x", "1"), V: v} }
	m2 := func(v float64) api.Point { return api.Point{L: metric("m", "x", "2"), V: v} }
	for _, c := range []struct {
		at   int
		want []api.Point
	}{
		{-1, nil}, {0, []api.Point{m1(1)}}, {4, []api.Point{m1(1)}}, {5, []api.Point{m1(1), m2(4)}}, {9, []api.Point{m1(1), m2(4)}},
		{10, []api.Point{m1(2), m2(4)}}, {19, []api.Point{m1(2), m2(4)}}, {20, []api.Point{m1(2)}}, {29, []api.Point{m1(2)}},
		{30, []api.Point{m1(2), m2(nan)}}, {300009, []api.Point{m1(2), m2(nan)}}, {300010, []api.Point{m2(nan)}}, {300029, []api.Point{m2(nan)}},
		{300030, nil}, {399999, nil}, {400000, []api.Point{m1(3)}}, {699999, []api.Point{m1(3)}}, {700000, nil}, {1 << 50, nil}, {-1 << 50, nil},
	} {
		wantVec(t, sel("m"), s, c.at, c.want...)
		for _, offset := range []int{1, -1, 500000, -500000, 1 << 40, -1 << 40} {
			n := sel("m")
			n.Offset = offset
			if at := c.at + offset; -1<<50 <= at && at <= 1<<50 {
				wantVec(t, n, s, at, c.want...)
			}
		}
	}
	wantVec(t, ir.Node{Kind: ir.Select}, s, 10, m1(2), m2(4), point(6, "x", "1"))
	wantVec(t, ir.Node{Kind: ir.Select, M: []api.Matcher{equal("x", "1")}}, s, 10, m1(2), point(6, "x", "1"))
	wantVec(t, ir.Node{Kind: ir.Select, M: []api.Matcher{equal("x", "1"), equal(api.Name, "")}}, s, 10, point(6, "x", "1"))
	wantVec(t, ir.Node{Kind: ir.Select, M: []api.Matcher{like("x", "[2-9]")}}, s, 10, m2(4))
	wantVec(t, sel("none"), s, 10)
}

// TestP1301Bounds: Offset and Range as great as may be, at times as far as may be.
func TestP1301Bounds(t *testing.T) {
	const far = 1 << 50
	s := storeOf(t, raws(list("x", "1"), -far, 1, 0, 2, far, 3))
	all := ir.Node{Kind: ir.Select}
	for _, c := range []struct{ at, offset, want int }{{far, 0, 3}, {-far, 0, 1}, {far, far, 2}, {-far, -far, 2}, {0, far, 1}, {0, -far, 3}, {far, -far, 0}, {-far, far, 0}} {
		n := all
		n.Offset = c.offset
		var want []api.Point
		if c.want > 0 {
			want = append(want, point(float64(c.want), "x", "1"))
		}
		wantVec(t, n, s, c.at, want...)
	}
	count := ir.Node{Kind: ir.Window, Fn: api.WCount, Range: far}
	for _, c := range []struct{ at, offset, want int }{{far, 0, 1}, {0, 0, 1}, {-far, 0, 1}, {-far, far, 0}, {far, -far, 0}, {0, -far, 1}, {0, far, 1}, {far - 1, 0, 1}, {far - 1, -1, 1}} {
		n := count
		n.Offset = c.offset
		var want []api.Point
		if c.want > 0 {
			want = append(want, point(float64(c.want), "x", "1"))
		}
		wantVec(t, n, s, c.at, want...)
	}
}

// TestP1301Window: samples above the one end and up to the other, those that are stale left out, without names.
func TestP1301Window(t *testing.T) {
	s := storeOf(t,
		raws(metric("m", "x", "1"), 0, 1, 10, 2, 20, 4, 30, 8),
		raws(metric("m", "x", "2"), 10, 16, 20, stale, 30, odd),
		raws(metric("n", "x", "1"), 30, 5))
	x1 := func(v float64) api.Point { return point(v, "x", "1") }
	x2 := func(v float64) api.Point { return point(v, "x", "2") }
	for _, c := range []struct {
		fn, length, offset, at int
		want                   []api.Point
	}{
		{api.WSum, 10, 0, 20, []api.Point{x1(4)}}, {api.WSum, 11, 0, 20, []api.Point{x1(6), x2(16)}}, {api.WSum, 10, 0, 19, []api.Point{x1(2), x2(16)}},
		{api.WSum, 10, 1, 20, []api.Point{x1(2), x2(16)}}, {api.WSum, 10, -1, 20, []api.Point{x1(4)}}, {api.WSum, 10, -10, 20, []api.Point{x1(8), x2(nan)}},
		{api.WSum, 10, 0, -1, nil}, {api.WSum, 10, 0, 0, []api.Point{x1(1)}}, {api.WSum, 1000, 0, 25, []api.Point{x1(7), x2(16)}}, {api.WSum, 1, 0, 41, nil},
		{api.WCount, 1000, 0, 30, []api.Point{x1(4), x2(2)}}, {api.WCount, 1, 0, 30, []api.Point{x1(1), x2(1)}}, {api.WCount, 1, 1, 30, nil},
		{api.WFirst, 25, 0, 30, []api.Point{x1(2), x2(16)}}, {api.WLast, 25, 0, 29, []api.Point{x1(4), x2(16)}},
		{api.WDelta, 25, 0, 30, []api.Point{x1(6), x2(nan)}}, {api.WDelta, 25, 0, 29, []api.Point{x1(2)}}, {api.WIncrease, 25, 0, 29, []api.Point{x1(2)}},
		{api.WRate, 25, 0, 29, []api.Point{x1(80)}}, {api.WRate, 500, 0, 29, []api.Point{x1(6)}}, {api.WRate, 500, -20, 9, []api.Point{x1(6)}},
	} {
		wantVec(t, win(c.fn, "m", c.length, c.offset), s, c.at, c.want...)
	}
	all := ir.Node{Kind: ir.Window, Fn: api.WCount, Range: 100}
	wantErr(t, all, s, roomyMost, 30, api.ErrDup)
	wantVec(t, all, s, 29, x1(3), x2(1))
	all.Fn = api.WDelta
	wantVec(t, all, s, 30, x1(7), x2(nan))
	all.M = []api.Matcher{equal("x", "2")}
	wantVec(t, all, s, 30, x2(nan))
}

// TestP1301SubTimes: the kid is asked at multiples of Step, those below 0 too, above the one end and up to the
// other.
func TestP1301SubTimes(t *testing.T) {
	s := few(t)
	for length := 1; length <= 14; length++ {
		for step := 1; step <= 9; step++ {
			for _, offset := range []int{-4, 0, 3} {
				for at := -21; at <= 21; at++ {
					var times []float64
					for u := at - offset - length + 1; u <= at-offset; u++ {
						if u%step == 0 {
							times = append(times, float64(u)/1000)
						}
					}
					wantTimes(t, s, length, step, offset, at, times)
				}
			}
		}
	}
}

// wantTimes asks for the times at which a Sub asks Time: how many, their sum, the first and the last.
func wantTimes(t *testing.T, s *store.Store, length, step, offset, at int, times []float64) {
	t.Helper()
	if len(times) == 0 {
		wantVec(t, sub(api.WCount, length, step, offset, now()), s, at)
		return
	}
	sum := times[0]
	for _, x := range times[1:] {
		sum += x
	}
	for fn, want := range map[int]float64{api.WCount: float64(len(times)), api.WSum: sum, api.WFirst: times[0], api.WLast: times[len(times)-1]} {
		wantVec(t, sub(fn, length, step, offset, now()), s, at, point(want))
	}
}

// TestP1301SubFar: times past those that may be asked; as many steps as may be.
func TestP1301SubFar(t *testing.T) {
	const far = 1 << 50
	s := few(t)
	wantVec(t, sub(api.WLast, 5, 1, far, now()), s, -far, point(float64(-2*far)/1000))
	wantVec(t, sub(api.WFirst, 5, 1, far, now()), s, -far, point(float64(-2*far-4)/1000))
	wantVec(t, sub(api.WFirst, 8, 8, far, now()), s, -far+5, point(float64(-2*far)/1000))
	wantVec(t, sub(api.WLast, 8, 8, far, now()), s, -far+7, point(float64(-2*far)/1000))
	wantVec(t, sub(api.WLast, 5, 1, -far, now()), s, far, point(float64(2*far)/1000))
	wantVec(t, sub(api.WFirst, far, far, 0, now()), s, far-1, point(0))
	wantVec(t, sub(api.WFirst, far, far, 0, now()), s, -1, point(float64(-far)/1000))
	wantVec(t, sub(api.WCount, 1000, 1, 0, now()), s, far, point(1000))
	wantVec(t, sub(api.WCount, far, far/1000+1, 0, now()), s, 0, point(1000))
	deep := sub(api.WLast, 1, 2, far, now())
	for range 18 {
		deep = sub(api.WLast, 1, 2, far, toScalar(deep))
	}
	wantVec(t, deep, s, -far, point(float64(-20*far)/1000))
}

// TestP1301SubVectors: of each list of labels its own values, without the name; one that comes late or goes too.
func TestP1301SubVectors(t *testing.T) {
	s := few(t)
	x1, x2 := "1", "2"
	wantVec(t, sub(api.WCount, 2500, 500, 0, sel("m")), s, 3400, point(5, "x", x1), point(5, "x", x2))
	wantVec(t, sub(api.WSum, 2500, 500, 0, sel("m")), s, 3400, point(1+1+2+2+3, "x", x1), point(10+10+20+20+30, "x", x2))
	wantVec(t, sub(api.WSum, 2000, 1000, 1000, sel("m")), s, 4000, point(5, "x", x1), point(50, "x", x2))
	wantVec(t, sub(api.WRate, 4000, 1000, 0, sel("m")), s, 4000, point(0.75, "x", x1), point(7.5, "x", x2))
	wantVec(t, sub(api.WCount, 4000, 1000, 0, op(api.Gt, sel("m"), num(3))), s, 4000, point(1, "x", x1), point(4, "x", x2))
	wantVec(t, sub(api.WDelta, 4000, 1000, 0, op(api.Gt, sel("m"), num(3))), s, 4000, point(30, "x", x2))
	wantVec(t, sub(api.WCount, 4000, 1000, 0, label(api.Name, "p", sel("m"))), s, 0, point(1, "x", x1), point(1, "x", x2))
	wantVec(t, sub(api.WCount, 4000, 1000, 0, empty()), s, 4000)
	wantVec(t, sub(api.WSum, 4, 1, 0, num(odd)), s, 0, point(nan))
	wantVec(t, sub(api.WSum, 4, 1, 0, toVector(num(2))), s, 0, point(8))
	// Two names at unlike times are two lists of labels, and one without their names.
	d := ir.Node{Kind: ir.Select, M: []api.Matcher{equal("k", "d")}}
	turns := storeOf(t, raws(metric("d1", "k", "d"), 0, 1, 10, stale), raws(metric("d2", "k", "d"), 10, 2))
	wantVec(t, d, turns, 0, api.Point{L: metric("d1", "k", "d"), V: 1})
	wantVec(t, d, turns, 10, api.Point{L: metric("d2", "k", "d"), V: 2})
	wantErr(t, sub(api.WSum, 20, 10, 0, d), turns, roomyMost, 10, api.ErrDup)
	wantVec(t, sub(api.WSum, 20, 10, 0, mapped(api.FAbs, 0, d)), turns, 10, point(3, "k", "d"))
	// One value is no delta, and so no point that could be there twice.
	wantVec(t, sub(api.WDelta, 20, 10, 0, d), turns, 10)
	wantVec(t, sub(api.WDelta, 30, 10, 0, d), turns, 20, point(0, "k", "d"))
	wantErr(t, sub(api.WDelta, 30, 5, 0, d), turns, roomyMost, 15, api.ErrDup)
}

// TestP1301SubErrors: of the kid's errors the one of the earliest time; none of a kid that is asked at no time.
func TestP1301SubErrors(t *testing.T) {
	s := storeOf(t,
		raws(metric("d1", "k", "d"), 10, 1, 20, stale), raws(metric("d2", "k", "d"), 10, 1, 20, stale),
		raws(metric("m", "x", "1"), 20, 1, 30, stale), raws(metric("m", "x", "2"), 20, 1, 30, stale))
	kid := op(api.Or, many(), dup())
	wantErr(t, kid, s, roomyMost, 10, api.ErrDup)
	wantErr(t, kid, s, roomyMost, 20, api.ErrMany)
	wantErr(t, sub(api.WSum, 30, 10, 0, kid), s, roomyMost, 20, api.ErrDup)
	wantErr(t, sub(api.WSum, 10, 10, 0, kid), s, roomyMost, 20, api.ErrMany)
	wantErr(t, sub(api.WSum, 10, 10, 0, kid), s, roomyMost, 19, api.ErrDup)
	wantErr(t, sub(api.WSum, 20, 5, -5, kid), s, roomyMost, 15, api.ErrDup)
	wantErr(t, sub(api.WSum, 10, 5, -5, kid), s, roomyMost, 15, api.ErrDup)
	wantErr(t, sub(api.WSum, 5, 5, -5, kid), s, roomyMost, 15, api.ErrMany)
	wantVec(t, sub(api.WSum, 9, 10, 0, kid), s, 19)
	wantVec(t, sub(api.WSum, 9, 10, 0, kid), s, 9)
	wantVec(t, sub(api.WSum, 9, 10, 0, kid), s, 35)
	wantErr(t, sub(api.WSum, 20, 10, 0, op(api.Or, sel("m"), dup())), s, 1, 20, api.ErrLimit)
	wantErr(t, sub(api.WSum, 20, 10, 0, op(api.Or, sel("m"), dup())), s, 2, 20, api.ErrDup)
	wantErr(t, sub(api.WSum, 20, 10, 0, sel("m")), s, 1, 20, api.ErrLimit)
}

// TestP1301Map: of each value, or of the scalar.
func TestP1301Map(t *testing.T) {
	s := storeOf(t, raws(metric("m", "x", "1"), 0, -2), raws(metric("m", "x", "2"), 0, minus), raws(metric("m", "x", "3"), 0, 3))
	for _, c := range []struct {
		fn   int
		arg  float64
		want [3]float64
	}{
		{api.FAbs, 9, [3]float64{2, 0, 3}}, {api.FAbs, nan, [3]float64{2, 0, 3}}, {api.FNeg, 9, [3]float64{2, 0, -3}}, {api.FSgn, nan, [3]float64{-1, minus, 1}},
		{api.FMin, 1, [3]float64{1, 1, 3}}, {api.FMax, 1, [3]float64{-2, minus, 1}}, {api.FMin, stale, [3]float64{nan, nan, nan}},
	} {
		wantVec(t, mapped(c.fn, c.arg, sel("m")), s, 0, point(c.want[0], "x", "1"), point(c.want[1], "x", "2"), point(c.want[2], "x", "3"))
		for i, v := range []float64{-2, minus, 3} {
			wantScalar(t, mapped(c.fn, c.arg, num(v)), s, 0, c.want[i])
		}
	}
	wantVec(t, mapped(api.FNeg, 0, sel("none")), s, 0)
	wantScalar(t, mapped(api.FNeg, 0, now()), s, 0, minus)
}

// TestP1301Scalars: of two scalars each operator's outcome.
func TestP1301Scalars(t *testing.T) {
	s := few(t)
	for _, c := range []struct {
		fn         int
		a, b, want float64
	}{
		{api.Add, 1, 2, 3}, {api.Sub, 1, 2, -1}, {api.Mul, 3, -2, -6}, {api.Div, 1, 0, inf}, {api.Div, 0, 0, nan}, {api.Sub, 0, 0, 0}, {api.Mul, -1, 0, minus}, {api.Add, odd, 1, nan},
		{api.Eq, 1, 1, 1}, {api.Eq, 1, 2, 0}, {api.Ne, nan, nan, 1}, {api.Gt, 2, 1, 1}, {api.Gt, 1, 2, 0}, {api.Lt, 1, 2, 1}, {api.Lt, 2, 1, 0}, {api.Ge, 1, 2, 0}, {api.Le, 2, 1, 0}, {api.Le, 1, 1, 1},
	} {
		n := op(c.fn, num(c.a), num(c.b))
		n.Flag = c.fn >= api.Eq
		wantScalar(t, n, s, 0, c.want)
	}
}

// TestP1301Scaled: the scalar on either side; comparisons choose, or tell by 1 and 0.
func TestP1301Scaled(t *testing.T) {
	s := few(t)
	x1, m1 := list("x", "1"), metric("m", "x", "1")
	for _, c := range []struct {
		n    ir.Node
		want []api.Point
	}{
		{op(api.Sub, sel("m"), num(1)), []api.Point{{L: x1, V: 2}, point(29, "x", "2")}}, {op(api.Sub, num(1), sel("m")), []api.Point{{L: x1, V: -2}, point(-29, "x", "2")}},
		{op(api.Div, num(6), sel("m")), []api.Point{{L: x1, V: 2}, point(0.2, "x", "2")}}, {op(api.Lt, sel("m"), num(10)), []api.Point{{L: m1, V: 3}}},
		{op(api.Gt, num(10), sel("m")), []api.Point{{L: m1, V: 3}}}, {flagged(op(api.Lt, num(10), sel("m"))), []api.Point{{L: x1, V: 0}, point(1, "x", "2")}},
		{flagged(op(api.Le, sel("m"), num(3))), []api.Point{{L: x1, V: 1}, point(0, "x", "2")}}, {op(api.Add, num(1), sel("none")), nil}, {op(api.Add, sel("none"), num(1)), nil},
		{op(api.Deft, sel("m"), num(8)), []api.Point{{L: m1, V: 3}, {L: metric("m", "x", "2"), V: 30}}}, {op(api.Deft, sel("none"), num(8)), []api.Point{{V: 8}}},
		{op(api.Deft, empty(), num(odd)), []api.Point{{V: nan}}}, {op(api.Deft, op(api.Gt, sel("m"), num(99)), now()), []api.Point{{V: 3}}},
	} {
		wantVec(t, c.n, s, 3000, c.want...)
	}
	for _, n := range []ir.Node{op(api.Add, num(1), dup()), op(api.Add, dup(), num(1)), op(api.Deft, dup(), num(1))} {
		wantErr(t, n, s, roomyMost, 0, api.ErrDup)
	}
}

// TestP1301Vectors: two vectors meet as join has it; sets go by X's G.
func TestP1301Vectors(t *testing.T) {
	s := few(t)
	x := api.Match{G: by("x")}
	matched := func(fn int, m api.Match, a, b ir.Node) ir.Node {
		n := op(fn, a, b)
		n.X = m
		return n
	}
	m1, m2, n1 := metric("m", "x", "1"), metric("m", "x", "2"), metric("n", "x", "1")
	both := []api.Point{{L: m1, V: 3}, {L: m2, V: 30}}
	for _, c := range []struct {
		n    ir.Node
		want []api.Point
	}{
		{op(api.Sub, sel("m"), sel("n")), []api.Point{point(-2, "x", "1")}}, {op(api.Sub, sel("n"), sel("m")), []api.Point{point(2, "x", "1")}},
		{op(api.Lt, sel("m"), sel("n")), []api.Point{point(3, "x", "1")}}, {flagged(op(api.Gt, sel("m"), sel("n"))), []api.Point{point(0, "x", "1")}},
		{op(api.Gt, sel("m"), sel("n")), nil}, {matched(api.Mul, x, sel("m"), sel("n")), []api.Point{point(15, "x", "1")}},
		{matched(api.Mul, api.Match{G: by("y"), Card: api.ManyOne}, sel("m"), sel("n")), []api.Point{point(15, "x", "1"), point(150, "x", "2")}},
		{matched(api.Div, api.Match{G: by("y"), Card: api.OneMany}, sel("n"), op(api.Gt, sel("m"), num(9))), []api.Point{point(5.0/30, "x", "2")}},
		{matched(api.Add, api.Match{G: by("y"), Card: api.ManyOne, Include: []string{"x"}}, sel("m"), label("x", "9", op(api.Add, num(0), sel("none")))), nil},
		{op(api.And, sel("m"), sel("n")), both[:1]}, {op(api.And, sel("n"), sel("m")), []api.Point{{L: n1, V: 5}}}, {op(api.Less, sel("m"), sel("n")), both[1:]},
		{op(api.Or, sel("m"), sel("n")), both}, {op(api.Or, sel("n"), sel("m")), []api.Point{both[1], {L: n1, V: 5}}}, {op(api.Deft, sel("n"), sel("m")), []api.Point{both[1], {L: n1, V: 5}}},
		{op(api.Deft, empty(), sel("m")), both}, {matched(api.And, api.Match{G: by("y")}, sel("m"), sel("n")), both}, {matched(api.Less, api.Match{G: by("y")}, sel("m"), sel("n")), nil},
		{matched(api.Deft, api.Match{G: by("y")}, sel("n"), sel("m")), []api.Point{{L: n1, V: 5}}},
		{matched(api.Or, api.Match{G: by(api.Name)}, sel("m"), sel("n")), append(slices.Clone(both), api.Point{L: n1, V: 5})},
	} {
		wantVec(t, c.n, s, 3000, c.want...)
	}
	wantErr(t, matched(api.Add, api.Match{G: by()}, sel("m"), sel("n")), s, roomyMost, 3000, api.ErrMany)
	wantErr(t, matched(api.Add, api.Match{G: by(), Card: api.OneMany}, sel("m"), sel("n")), s, roomyMost, 3000, api.ErrMany)
}

// TestP1301Kinds: the kinds that have one kid.
func TestP1301Kinds(t *testing.T) {
	s := few(t)
	m1, m2 := metric("m", "x", "1"), metric("m", "x", "2")
	for _, c := range []struct {
		n    ir.Node
		want []api.Point
	}{
		{grouped(api.ASum, api.Group{}, 0, sel("m")), []api.Point{{V: 33}}}, {grouped(api.AMax, by("x"), 9, sel("m")), []api.Point{point(3, "x", "1"), point(30, "x", "2")}},
		{grouped(api.ATop, api.Group{}, 1, sel("m")), []api.Point{{L: m2, V: 30}}}, {grouped(api.ABottom, api.Group{}, 1.9, sel("m")), []api.Point{{L: m1, V: 3}}},
		{grouped(api.ATop, api.Group{}, 0.5, sel("m")), nil}, {grouped(api.ACount, api.Group{}, 0, sel("none")), nil}, {grouped(api.AGroup, api.Group{How: api.Without, Names: []string{"x"}}, 0, sel("m")), []api.Point{{V: 1}}},
		{label("y", "9", sel("m")), []api.Point{{L: metric("m", "x", "1", "y", "9"), V: 3}, {L: metric("m", "x", "2", "y", "9"), V: 30}}}, {label(api.Name, "", sel("n")), []api.Point{point(5, "x", "1")}},
		{label("x", "", sel("n")), []api.Point{{L: metric("n"), V: 5}}}, {absent(sel("m"), equal("x", "1")), nil}, {absent(sel("none"), equal("x", "1"), equal(api.Name, "none")), []api.Point{point(1, "x", "1")}},
		{absent(sel("none")), []api.Point{{V: 1}}}, {absent(op(api.Gt, sel("m"), num(99)), equal("y", "2"), like("x", "1")), []api.Point{point(1, "y", "2")}},
		{toVector(num(stale)), []api.Point{{V: nan}}}, {toVector(now()), []api.Point{{V: 3}}}, {toVector(toScalar(sel("n"))), []api.Point{{V: 5}}}, {empty(), nil},
	} {
		wantVec(t, c.n, s, 3000, c.want...)
	}
	wantScalar(t, toScalar(toVector(num(minus))), s, 3000, minus)
	wantScalar(t, toScalar(empty()), s, 3000, nan)
	wantErr(t, toScalar(sel("m")), s, 1, 3000, api.ErrLimit)
	wantScalar(t, toScalar(op(api.Lt, num(3), toVector(num(4)))), s, 3000, 4)
	v, err := walk.At(toScalar(sel("m")), s, 2, 3000)
	if show(v, err) != show(walk.Value{Scalar: true, V: nan}, api.OK) {
		t.Errorf("scalar of two: %s", show(v, err))
	}
	wantErr(t, label("x", "9", sel("m")), s, roomyMost, 3000, api.ErrDup)
}

// failing answers a plan for each error that may come of a value: vectors all.
func failing() map[api.Errno]ir.Node {
	return map[api.Errno]ir.Node{api.ErrDup: dup(), api.ErrMany: many(), api.ErrLimit: op(api.Or, sel("m"), label("x", "7", sel("n")))}
}

// TestP1301FirstError: of two kids that have one the first one's; a kid's ahead of its parent's; a node's own
// ahead of its limit.
func TestP1301FirstError(t *testing.T) {
	s := few(t)
	for e, a := range failing() {
		wantErr(t, a, s, 2, 0, e)
		for _, b := range failing() {
			for fn := api.Add; fn <= api.Deft; fn++ {
				wantErr(t, op(fn, a, b), s, 2, 0, e)
				wantErr(t, op(fn, op(api.And, empty(), a), b), s, 2, 0, e)
				wantErr(t, op(fn, empty(), op(fn, a, b)), s, 2, 0, e)
			}
			wantErr(t, op(api.Add, toScalar(a), b), s, 2, 0, e)
			wantErr(t, op(api.Add, a, toScalar(b)), s, 2, 0, e)
			wantErr(t, op(api.Deft, a, toScalar(b)), s, 2, 0, e)
			wantErr(t, op(api.Mul, toScalar(a), toScalar(b)), s, 2, 0, e)
		}
		for _, n := range []ir.Node{mapped(api.FAbs, 0, a), grouped(api.ASum, api.Group{}, 0, a), toScalar(a), toVector(toScalar(a)), absent(a), label("y", "1", a), sub(api.WSum, 1, 1, 0, a), mapped(api.FAbs, 0, toScalar(a)), op(api.Deft, toVector(num(1)), toScalar(a)), op(api.And, empty(), a)} {
			wantErr(t, n, s, 2, 0, e)
		}
		// The kid's goes ahead of the parent's own.
		wantErr(t, label("x", "9", op(api.Or, sel("m"), a)), s, 2, 0, e)
	}
	wantErr(t, ir.Node{Kind: ir.Window, Fn: api.WSum, Range: 1}, s, 1, 0, api.ErrDup)
	wantErr(t, sub(api.WSum, 1, 1, 0, ir.Node{Kind: ir.Select}), s, 1, 0, api.ErrLimit)
	wantErr(t, sub(api.WSum, 2000, 2000, 0, ir.Node{Kind: ir.Select}), s, 5, 0, api.ErrDup)
}

// TestP1301Limit: each kind of node at as many points as may be, and at one more.
func TestP1301Limit(t *testing.T) {
	var l [][]store.Raw
	for i := range 4 {
		l = append(l, raws(metric("m", "x", fmt.Sprint(i)), 0, float64(i)), raws(metric("n", "y", fmt.Sprint(i)), 0, float64(i)))
	}
	s := storeOf(t, l...)
	for _, n := range []ir.Node{sel("m"), win(api.WSum, "m", 1, 0), sub(api.WSum, 1, 1, 0, sel("m")), mapped(api.FAbs, 0, sel("m")), op(api.Add, sel("m"), num(1)), op(api.Add, num(1), sel("m")),
		op(api.Deft, sel("m"), num(1)), op(api.Add, sel("m"), sel("m")), op(api.And, sel("m"), sel("m")), label("y", "1", sel("m")), grouped(api.ATop, api.Group{}, 9, sel("m")), grouped(api.ASum, by("x"), 0, sel("m"))} {
		wantErr(t, n, s, 3, 0, api.ErrLimit)
		for _, most := range []int{4, 5, 1 << 20} {
			if v, err := walk.At(n, s, most, 0); err != api.OK || len(v.Vec) != 4 {
				t.Errorf("%s, most %d: %s", ir.Text(n), most, show(v, err))
			}
		}
	}
	// Only the node itself has more than its kids.
	for _, n := range []ir.Node{op(api.Or, sel("m"), sel("n")), op(api.Deft, sel("m"), sel("n"))} {
		wantErr(t, n, s, 7, 0, api.ErrLimit)
		if v, err := walk.At(n, s, 8, 0); err != api.OK || len(v.Vec) != 8 {
			t.Errorf("%s: %s", ir.Text(n), show(v, err))
		}
	}
	// One point at each time, more of them together.
	late := on(ir.Node{Kind: ir.Binary, Fn: api.Eq}, sel("m"), mapped(api.FMin, 0, op(api.Mul, now(), num(1000))))
	for at := range 4 {
		wantVec(t, late, s, at, api.Point{L: metric("m", "x", fmt.Sprint(at)), V: float64(at)})
		wantErr(t, sub(api.WSum, 4, 1, 0, late), s, 3, at, api.ErrLimit)
		if v, err := walk.At(sub(api.WSum, 4, 1, 0, late), s, 4, at); err != api.OK || len(v.Vec) != at+1 {
			t.Errorf("at %d: %s", at, show(v, err))
		}
	}
	if v, err := walk.At(toVector(num(1)), s, 1, 0); err != api.OK || len(v.Vec) != 1 {
		t.Errorf("most 1: %s", show(v, err))
	}
}

// answer is a value, found apart from the program.
type answer struct {
	scalar bool
	x      float64
	points []api.Point
}

// series answers a store's samples by labels, in order, the later one of the same time.
func series(l []store.Raw) []api.Series {
	var out []api.Series
	for _, r := range l {
		at, known := slices.BinarySearchFunc(out, r.L, func(x api.Series, l []api.Label) int { return order(x.L, l) })
		if !known {
			out = slices.Insert(out, at, api.Series{L: r.L})
		}
		out[at].S = slices.DeleteFunc(out[at].S, func(p api.Sample) bool { return p.T == r.T })
		out[at].S = append(out[at].S, api.Sample{T: r.T, V: r.V})
		slices.SortFunc(out[at].S, func(p, q api.Sample) int { return p.T - q.T })
	}
	return out
}

// order compares labels apart from the program: by name, then by value, the shorter first.
func order(a, b []api.Label) int {
	return slices.CompareFunc(a, b, func(x, y api.Label) int {
		if x.Name != y.Name {
			return strings.Compare(x.Name, y.Name)
		}
		return strings.Compare(x.Value, y.Value)
	})
}

func get(l []api.Label, name string) string {
	for _, x := range l {
		if x.Name == name {
			return x.Value
		}
	}
	return ""
}

func fits(m []api.Matcher, l []api.Label) bool {
	for _, x := range m {
		fit := get(l, x.Name) == x.Value
		if x.Kind >= api.Like {
			fit = regexp.MustCompile("^(?:" + x.Value + ")$").MatchString(get(l, x.Name))
		}
		if fit == (x.Kind == api.NotEqual || x.Kind == api.NotLike) {
			return false
		}
	}
	return true
}

func nameless(l []api.Label) []api.Label {
	return slices.DeleteFunc(slices.Clone(l), func(x api.Label) bool { return x.Name == api.Name })
}

// inOrder puts points in order; two of the same labels are an error, that breaks all off.
func inOrder(l []api.Point) []api.Point {
	var out []api.Point
	for _, p := range l {
		at, known := slices.BinarySearchFunc(out, p.L, func(q api.Point, l []api.Label) int { return order(q.L, l) })
		if known {
			panic(api.ErrDup)
		}
		out = slices.Insert(out, at, api.Point{L: p.L, V: canon(p.V)})
	}
	return out
}

// wanted answers a plan's value at a time, of a plan that is right.
func wanted(n ir.Node, l []api.Series, most, t int) (v answer, err api.Errno) {
	defer func() {
		if e, ok := recover().(api.Errno); ok {
			v, err = answer{}, e
		}
	}()
	return asked(n, l, most, t), api.OK
}

func asked(n ir.Node, l []api.Series, most, t int) answer {
	var v answer
	switch n.Kind {
	case ir.Const, ir.Time, ir.ToScalar:
		v = answer{scalar: true, x: number(n, l, most, t)}
	case ir.Select, ir.Window, ir.Sub:
		v.points = stretched(n, l, most, t)
	case ir.Binary:
		a := asked(n.Kids[0], l, most, t)
		v = met(n, a, asked(n.Kids[1], l, most, t))
	case ir.Empty:
	default:
		v = changed(n, asked(n.Kids[0], l, most, t))
	}
	if len(v.points) > most {
		panic(api.ErrLimit)
	}
	return v
}

func number(n ir.Node, l []api.Series, most, t int) float64 {
	if n.Kind == ir.Const {
		return canon(n.Num)
	}
	if n.Kind == ir.Time {
		return float64(t) / 1000
	}
	if p := asked(n.Kids[0], l, most, t).points; len(p) == 1 {
		return p[0].V
	}
	return nan
}

// stretched answers the points that come of series: a Sub's are made of its kid's values first, each
// millisecond's that Step divides.
func stretched(n ir.Node, l []api.Series, most, t int) []api.Point {
	from, to := t-n.Offset-n.Range, t-n.Offset
	if n.Kind == ir.Sub {
		var made []store.Raw
		for u := from + 1; u <= to; u++ {
			if u%n.Step == 0 {
				v := asked(n.Kids[0], l, most, u)
				if v.scalar {
					v.points = []api.Point{{V: v.x}}
				}
				for _, p := range v.points {
					made = append(made, store.Raw{L: p.L, T: u, V: p.V})
				}
			}
		}
		n.M, l = nil, series(made)
	}
	var out []api.Point
	for _, x := range l {
		if !fits(n.M, x.L) {
			continue
		}
		if n.Kind == ir.Select {
			for _, p := range slices.Backward(x.S) {
				if p.T <= to {
					if p.T > to-300000 && math.Float64bits(p.V) != math.Float64bits(stale) {
						out = append(out, api.Point{L: x.L, V: p.V})
					}
					break
				}
			}
			continue
		}
		var s []api.Sample
		for _, p := range x.S {
			if p.T > from && p.T <= to && math.Float64bits(p.V) != math.Float64bits(stale) {
				s = append(s, p)
			}
		}
		if v, ok := window.Fn(n.Fn, s, from, to); ok {
			out = append(out, api.Point{L: nameless(x.L), V: v})
		}
	}
	return inOrder(out)
}

// ok answers points, or breaks all off.
func ok(v vector.Vec, err api.Errno) answer {
	if err != api.OK {
		panic(err)
	}
	return answer{points: v}
}

func changed(n ir.Node, a answer) answer {
	v := vector.Vec(a.points)
	switch n.Kind {
	case ir.Map:
		if a.scalar {
			x, _ := fval.Fn(n.Fn, a.x, n.Num)
			return answer{scalar: true, x: x}
		}
		return ok(v.Map(n.Fn, n.Num))
	case ir.Agg:
		return ok(agg.Agg(n.Fn, n.G, n.Num, v))
	case ir.Label:
		return ok(v.Label(n.Name, n.Value))
	case ir.Absent:
		return answer{points: v.Absent(n.M...)}
	}
	return answer{points: []api.Point{{V: a.x}}}
}

func met(n ir.Node, a, b answer) answer {
	v, w := vector.Vec(a.points), vector.Vec(b.points)
	if a.scalar && b.scalar {
		x, _ := fval.Op(n.Fn, a.x, b.x)
		return answer{scalar: true, x: x}
	}
	if n.Fn == api.Deft && b.scalar {
		if len(v) == 0 {
			v = vector.Vec{{V: b.x}}
		}
		return answer{points: v}
	}
	if a.scalar {
		return ok(w.Scaled(n.Fn, a.x, true, n.Flag))
	}
	if b.scalar {
		return ok(v.Scaled(n.Fn, b.x, false, n.Flag))
	}
	if n.Fn > api.Le {
		return ok(join.Set(n.Fn, n.X.G, v, w))
	}
	return ok(join.Binary(n.Fn, n.X, n.Flag, v, w))
}

// told answers what asking at each point of a grid, one by one, puts together.
func told(n ir.Node, l []api.Series, most int, g api.Grid) ([]api.Series, api.Errno) {
	var made []store.Raw
	for t := g.Start; t <= g.End; t += g.Step {
		v, err := wanted(n, l, most, t)
		if err != api.OK {
			return nil, err
		}
		if v.scalar {
			v.points = []api.Point{{V: v.x}}
		}
		for _, p := range v.points {
			made = append(made, store.Raw{L: p.L, T: t, V: p.V})
		}
	}
	return series(made), api.OK
}

// scatter answers n numbers from 0 to below bound, the same ones in each run of the same seed.
func scatter(seed uint64, n, bound int) []int {
	l, x := make([]int, n), seed
	for i := range l {
		x = x*6364136223846793005 + 1442695040888963407
		l[i] = int((x ^ x>>29) % uint64(bound))
	}
	return l
}

// maker makes stores and plans of numbers that are given, as long as there are some.
type maker struct {
	l []int
}

func (m *maker) of(n int) int {
	if len(m.l) == 0 {
		return 0
	}
	x := m.l[0]
	m.l = m.l[1:]
	return x % n
}

func pick[T any](m *maker, l ...T) T {
	return l[m.of(len(l))]
}

// raws answers samples of a few series, most of them near 0, some as far off as the lookback goes.
func (m *maker) raws() []store.Raw {
	var out []store.Raw
	for range 4 + m.of(60) {
		l := pick(m, metric("m", "x", "1"), metric("m", "x", "2"), metric("m", "x", "1", "y", "1"), metric("n", "x", "1"), metric("n", "x", "2", "y", "2"),
			list("x", "1"), list("y", "2"), nil)
		t := pick(m, m.of(30), m.of(30), m.of(30)-10, m.of(10)-299995)
		v := pick(m, 0, minus, 1, 1, 2, 3, -2.5, 0.1, inf, odd, stale, stale)
		out = append(out, store.Raw{L: l, T: t, V: v})
	}
	return out
}

func (m *maker) matchers() []api.Matcher {
	return pick(m, nil, named("m"), named("m"), named("n"), []api.Matcher{equal("x", "1")}, []api.Matcher{like("x", "1|2"), equal("y", "")},
		[]api.Matcher{{Kind: api.NotEqual, Name: api.Name, Value: "n"}}, []api.Matcher{{Kind: api.NotLike, Name: "y", Value: "2|3"}, like(api.Name, "m|n")})
}

func (m *maker) group() api.Group {
	return pick(m, api.Group{}, by("x"), by("y"), by("y", "x"), by(), by(api.Name), api.Group{How: api.Without, Names: []string{"y"}}, api.Group{How: api.Without})
}

func (m *maker) node(deep, vector int) ir.Node {
	if vector > 0 {
		return m.vector(deep)
	}
	return m.scalar(deep)
}

func (m *maker) scalar(deep int) ir.Node {
	if deep < 1 {
		return pick(m, now(), now(), num(pick(m, 0, 1, 2, minus, -2.5, nan, inf)))
	}
	switch m.of(4) {
	case 0:
		return toScalar(m.vector(deep - 1))
	case 1:
		return mapped(1+m.of(5), pick(m, 0, 1, nan), m.scalar(deep-1))
	}
	n := op(1+m.of(10), m.scalar(deep-1), m.scalar(deep-1))
	n.Flag = n.Fn >= api.Eq
	return n
}

func (m *maker) vector(deep int) ir.Node {
	if deep < 1 || m.of(8) == 0 {
		leaf := ir.Node{Kind: pick(m, ir.Select, ir.Select, ir.Window, ir.Empty), Fn: 1 + m.of(14), M: m.matchers(), Range: 1 + m.of(20), Offset: m.of(11) - 5}
		if m.of(20) == 0 {
			leaf.Offset = pick(m, 299995, -299995)
		}
		return leaf
	}
	switch m.of(9) {
	case 0:
		return sub(1+m.of(14), 1+m.of(9), 1+m.of(4), m.of(5)-2, m.node(deep-1, m.of(4)))
	case 1:
		return mapped(1+m.of(5), pick(m, 0, 1, nan), m.vector(deep-1))
	case 2:
		return grouped(1+m.of(8), m.group(), pick(m, 1, 2, 0, nan), m.vector(deep-1))
	case 3:
		return label(pick(m, "x", "y", api.Name), pick(m, "", "1", "2"), m.vector(deep-1))
	case 4:
		return absent(m.vector(deep-1), m.matchers()...)
	case 5:
		return toVector(m.scalar(deep - 1))
	case 6:
		n := op(1+m.of(10), m.vector(deep-1), m.scalar(deep-1))
		n.Flag = n.Fn >= api.Eq && m.of(2) > 0
		if m.of(2) > 0 {
			slices.Reverse(n.Kids)
		} else if m.of(4) == 0 {
			n.Fn, n.Flag = api.Deft, false
		}
		return n
	}
	n := op(1+m.of(14), m.vector(deep-1), m.vector(deep-1))
	n.Flag = n.Fn >= api.Eq && n.Fn <= api.Le && m.of(2) > 0
	n.X.G = m.group()
	if n.Fn <= api.Le && m.of(2) > 0 {
		n.X.Card = 1 + m.of(2)
		n.X.Include = pick(m, nil, []string{"z"}, []string{api.Name})
	}
	if _, err := ir.Check(n); err != api.OK {
		n.X = api.Match{}
	}
	return n
}

// TestP1301OfAll: plans that were made, on stores that were made, against answers found apart from the program.
func TestP1301OfAll(t *testing.T) {
	seen := map[api.Errno]int{}
	points := 0
	for seed := range 4000 {
		m := &maker{scatter(uint64(seed), 900, 1<<30)}
		n := m.node(m.of(5), m.of(6))
		raws := m.raws()
		l, s := series(raws), storeOf(t, raws)
		if _, err := ir.Check(n); err != api.OK {
			t.Fatalf("%s: %v", ir.Text(n), err)
		}
		for range 4 {
			most, at := pick(m, roomyMost, roomyMost, 3, 2, 1), pick(m, m.of(30), m.of(40)-10)
			v, err := walk.At(n, s, most, at)
			want, wantErr := wanted(n, l, most, at)
			if got, want := show(v, err), show(walk.Value{Scalar: want.scalar, V: want.x, Vec: want.points}, wantErr); got != want {
				t.Fatalf("%d: %s at %d, most %d: %s instead of %s", seed, ir.Text(n), at, most, got, want)
			}
			seen[err]++
			points += len(v.Vec)
		}
	}
	for _, err := range []api.Errno{api.OK, api.ErrDup, api.ErrMany, api.ErrLimit} {
		if seen[err] < 300 {
			t.Errorf("%v came %d times", err, seen[err])
		}
	}
	if points < 5000 {
		t.Errorf("%d points came", points)
	}
}

// TestP1302OfAll: the same plans, at grids.
func TestP1302OfAll(t *testing.T) {
	seen := map[api.Errno]int{}
	several := 0
	for seed := range 4000 {
		m := &maker{scatter(uint64(seed), 900, 1<<30)}
		n := m.node(m.of(5), m.of(6))
		raws := m.raws()
		l, s := series(raws), storeOf(t, raws)
		most, g := pick(m, roomyMost, roomyMost, 3, 2), api.Grid{Start: m.of(30) - 12, Step: 1 + m.of(6)}
		g.End = g.Start + m.of(20)
		got, err := walk.Query(n, s, most, g)
		want, wantErr := told(n, l, most, g)
		if showSeries(got, err) != showSeries(want, wantErr) {
			t.Fatalf("%d: %s at %v, most %d: %s instead of %s", seed, ir.Text(n), g, most, showSeries(got, err), showSeries(want, wantErr))
		}
		if walk.Known(got) != api.OK || !walk.Same(got, want) {
			t.Errorf("%d: %s is not known, or not the same", seed, showSeries(got, err))
		}
		seen[err]++
		if len(got) > 1 {
			several++
		}
	}
	for _, err := range []api.Errno{api.OK, api.ErrDup, api.ErrMany, api.ErrLimit} {
		if seen[err] < 100 {
			t.Errorf("%v came %d times", err, seen[err])
		}
	}
	if several < 300 {
		t.Errorf("%d had several series", several)
	}
}

// TestP1301NotHad: fields that a node of a kind does not have change nothing, whatever they are.
func TestP1301NotHad(t *testing.T) {
	for seed := range 1500 {
		m := &maker{scatter(uint64(seed), 900, 1<<30)}
		n := m.node(m.of(5), m.of(6))
		s := storeOf(t, m.raws())
		at := m.of(30)
		clean, cleanErr := walk.At(ir.Clean(n), s, 3, at)
		full, fullErr := walk.At(filled(n), s, 3, at)
		if show(full, fullErr) != show(clean, cleanErr) {
			t.Fatalf("%d: %s at %d: %s instead of %s", seed, ir.Text(n), at, show(full, fullErr), show(clean, cleanErr))
		}
	}
}

// filled answers n with all fields set that its kinds do not have.
func filled(n ir.Node) ir.Node {
	clean := ir.Clean(n)
	for _, set := range []func(*ir.Node){
		func(n *ir.Node) { n.Num = nan }, func(n *ir.Node) { n.Fn = 3 }, func(n *ir.Node) { n.M = named("m") }, func(n *ir.Node) { n.Range = 5 },
		func(n *ir.Node) { n.Step = 7 }, func(n *ir.Node) { n.Offset = 3 }, func(n *ir.Node) { n.G = by("x") },
		func(n *ir.Node) { n.X = api.Match{G: by("x"), Card: api.ManyOne} }, func(n *ir.Node) { n.Flag = true }, func(n *ir.Node) { n.Name, n.Value = "x", "9" },
	} {
		// Of one node alone: kids that have it would tell it apart.
		lone, was := n, clean
		lone.Kids, was.Kids = nil, nil
		set(&lone)
		if ir.Same(lone, was) {
			set(&n)
		}
	}
	var kids []ir.Node
	for _, k := range n.Kids {
		kids = append(kids, filled(k))
	}
	return on(n, kids...)
}

// TestP1302Errors: the grid's error ahead of all others, then those of At at the first point that has one.
func TestP1302Errors(t *testing.T) {
	s := few(t)
	const far = 1 << 50
	wrong := op(api.And, num(1), num(1))
	for _, g := range []api.Grid{{}, {Step: -1}, {Start: 1, Step: 1}, {Start: -far - 1, Step: 1}, {End: far + 1, Step: far}, {Step: far + 1}, {Start: math.MinInt, End: math.MaxInt, Step: 1}} {
		wantQueryErr(t, num(1), s, 1, g, api.ErrArg)
		wantQueryErr(t, wrong, s, 0, g, api.ErrArg)
		wantQueryErr(t, wrong, s, 1, g, api.ErrArg)
	}
	for _, g := range []api.Grid{{End: 4096, Step: 1}, {Start: -far, End: far, Step: 1}} {
		wantQueryErr(t, num(1), s, 1, g, api.ErrLimit)
		wantQueryErr(t, wrong, s, 0, g, api.ErrLimit)
		wantQueryErr(t, dup(), s, 1, g, api.ErrLimit)
	}
	g := api.Grid{End: 4095, Step: 1}
	wantQueryErr(t, wrong, s, 0, g, api.ErrArg)
	wantQueryErr(t, wrong, s, 1, g, api.ErrType)
	wantQueryErr(t, sel("m"), s, 1, g, api.ErrLimit)
	l, err := walk.Query(now(), s, 1, g)
	if err != api.OK || len(l) != 1 || len(l[0].S) != 4096 || l[0].S[4095] != (api.Sample{T: 4095, V: 4.095}) {
		t.Errorf("4096 points: %v, %d series", err, len(l))
	}
	ends := storeOf(t,
		raws(metric("d1", "k", "d"), 10, 1, 20, stale), raws(metric("d2", "k", "d"), 10, 1, 20, stale),
		raws(metric("m", "x", "1"), 20, 1, 30, stale), raws(metric("m", "x", "2"), 20, 1, 30, stale))
	n := op(api.Or, many(), dup())
	wantQueryErr(t, n, ends, 2, api.Grid{End: 40, Step: 10}, api.ErrDup)
	wantQueryErr(t, n, ends, 2, api.Grid{Start: 20, End: 40, Step: 10}, api.ErrMany)
	wantQueryErr(t, n, ends, 1, api.Grid{Start: 20, End: 40, Step: 10}, api.ErrLimit)
	wantQueryErr(t, n, ends, 2, api.Grid{End: 29, Step: 29}, api.ErrMany)
	wantQuery(t, n, ends, 2, api.Grid{End: 30, Step: 30})
	wantQuery(t, n, ends, 2, api.Grid{Start: 30, End: 400, Step: 10})
}

// TestP1302Query: samples at the points where there is one, in the order of labels, not of times.
func TestP1302Query(t *testing.T) {
	s := storeOf(t,
		raws(metric("m", "x", "3"), -20, 1, 0, 2), raws(metric("m", "x", "1"), 10, 3, 20, stale, 30, odd), raws(metric("m", "x", "2"), 11, 4, 12, minus),
		raws(list("a", "1"), 25, 6))
	all := ir.Node{Kind: ir.Select}
	x := func(v string, s ...api.Sample) api.Series { return api.Series{L: metric("m", "x", v), S: s} }
	a := func(s ...api.Sample) api.Series { return api.Series{L: list("a", "1"), S: s} }
	at := func(t int, v float64) api.Sample { return api.Sample{T: t, V: v} }
	wantQuery(t, all, s, 9, api.Grid{Start: -30, End: 30, Step: 10},
		x("1", at(10, 3), at(30, nan)), x("2", at(20, minus), at(30, minus)), x("3", at(-20, 1), at(-10, 1), at(0, 2), at(10, 2), at(20, 2), at(30, 2)), a(at(30, 6)))
	wantQuery(t, all, s, 9, api.Grid{Start: -30, End: 29, Step: 20}, x("1", at(10, 3)), x("3", at(-10, 1), at(10, 2)))
	wantQuery(t, all, s, 9, api.Grid{Start: 11, End: 11, Step: 1 << 50}, x("1", at(11, 3)), x("2", at(11, 4)), x("3", at(11, 2)))
	wantQuery(t, all, s, 9, api.Grid{Start: -30, End: -21, Step: 1})
	wantQuery(t, empty(), s, 1, api.Grid{End: 9, Step: 1})
	wantQuery(t, now(), s, 1, api.Grid{Start: -1500, End: 1999, Step: 1500}, api.Series{S: []api.Sample{at(-1500, -1.5), at(0, 0), at(1500, 1.5)}})
	wantQuery(t, num(odd), s, 1, api.Grid{Step: 1}, api.Series{S: []api.Sample{at(0, nan)}})
	wantQuery(t, toVector(now()), s, 1, api.Grid{Start: 5, End: 6, Step: 1}, api.Series{S: []api.Sample{at(5, 0.005), at(6, 0.006)}})
	wantQuery(t, op(api.Deft, op(api.Gt, mapped(api.FNeg, 0, toVector(now())), num(0)), num(7)), s, 1, api.Grid{Start: -1000, End: 1000, Step: 1000}, api.Series{S: []api.Sample{at(-1000, 1), at(0, 7), at(1000, 7)}})
	const far = 1 << 50
	wantQuery(t, now(), s, 1, api.Grid{Start: -far, End: far, Step: far}, api.Series{S: []api.Sample{at(-far, -float64(far)/1000), at(0, 0), at(far, float64(far)/1000)}})
	wantQuery(t, now(), s, 1, api.Grid{Start: far, End: far, Step: far}, api.Series{S: []api.Sample{at(far, float64(far)/1000)}})
}

// TestP1302QueryIsAt: a point's samples are At's points there.
func TestP1302QueryIsAt(t *testing.T) {
	for seed := range 300 {
		m := &maker{scatter(uint64(seed), 900, 1<<30)}
		n := m.node(m.of(5), m.of(6))
		s := storeOf(t, m.raws())
		for at := range 5 {
			v, err := walk.At(n, s, 5, at)
			if v.Scalar {
				v.Vec = vector.Vec{{V: v.V}}
			}
			var want []api.Series
			for _, p := range v.Vec {
				want = append(want, api.Series{L: p.L, S: []api.Sample{{T: at, V: p.V}}})
			}
			got, gotErr := walk.Query(n, s, 5, api.Grid{Start: at, End: at, Step: 1})
			if showSeries(got, gotErr) != showSeries(want, err) {
				t.Errorf("%s at %d: %s instead of %s", ir.Text(n), at, showSeries(got, gotErr), showSeries(want, err))
			}
		}
	}
}

// TestP1302Known: lists that rise, of labels that are Right, with samples whose times rise.
func TestP1302Known(t *testing.T) {
	one := []api.Sample{{T: 1, V: 2}}
	of := func(l ...string) api.Series { return api.Series{L: list(l...), S: one} }
	at := func(times ...int) api.Series {
		x := of("a", "1")
		x.S = nil
		for _, t := range times {
			x.S = append(x.S, api.Sample{T: t, V: odd})
		}
		return x
	}
	long := strings.Repeat("v", api.MaxValue)
	var names []string
	for i := range api.MaxNames {
		names = append(names, fmt.Sprintf("n%02d", i), "v")
	}
	known := [][]api.Series{nil, {}, {of()}, {of(), of("a", "1")}, {of("a", "1"), of("a", "1", "b", "1")}, {of("a", "1"), of("a", "2")}, {of("a", "1", "c", "1"), of("a", "1", "d", "1"), of("a", "2")}, {of("a", "2"), of("b", "1")},
		{of(api.Name, "m", "a", "1"), of("a", "1")}, {of("a", long)}, {of(names...)}, {at(1, 2, 3)}, {at(-5, 0, 7)}, {at(math.MinInt, math.MaxInt)}, {at(1), of("b", "1")}}
	for _, l := range known {
		if err := walk.Known(l); err != api.OK {
			t.Errorf("%s: %v", showSeries(l, api.OK), err)
		}
	}
	unknown := []api.Series{of("a", ""), of("", "1"), of("1", "1"), of("b", "1", "a", "1"), of("a", "1", "a", "1"), of("a", "1", "a", "2"), of("a", long+"v"), of(append(names, "o", "v")...), of(strings.Repeat("n", api.MaxName+1), "1"),
		at(), {}, at(1, 1), at(2, 1), at(1, 2, 2), at(1, 3, 2), at(math.MaxInt, math.MinInt)}
	for _, x := range unknown {
		for _, l := range [][]api.Series{{x}, {of(), x}, {of(), x, of("zz", "1")}, {x, of("zz", "1")}} {
			if err := walk.Known(l); err != api.ErrArg {
				t.Errorf("%s: %v", showSeries(l, api.OK), err)
			}
		}
	}
	for _, l := range known {
		for i := range l {
			if err := walk.Known(slices.Insert(slices.Clone(l), i, l[i])); err != api.ErrArg {
				t.Errorf("twice %d of %s: %v", i, showSeries(l, api.OK), err)
			}
			if i > 0 {
				if err := walk.Known([]api.Series{l[i], l[i-1]}); err != api.ErrArg {
					t.Errorf("%d of %s turned: %v", i, showSeries(l, api.OK), err)
				}
			}
		}
	}
	if walk.Known([]api.Series{of("a", "1"), of("b", "1"), of("a", "2")}) != api.ErrArg || walk.Known([]api.Series{of("a", "1"), of("a", "2"), of()}) != api.ErrArg {
		t.Error("lists that fall at the end are known")
	}
}

// TestP1302Same: all of it is held against all of it, values by their bits, NaNs as one.
func TestP1302Same(t *testing.T) {
	begin := func() []api.Series {
		return []api.Series{{L: list("a", "1"), S: []api.Sample{{T: 1, V: nan}, {T: 2, V: 0}}}, {L: list("a", "2", "b", "3"), S: []api.Sample{{T: 1, V: 4}}}}
	}
	want := func(a, b []api.Series, same bool) {
		t.Helper()
		if walk.Same(a, b) != same || walk.Same(b, a) != same {
			t.Errorf("Same of %s and %s is not %v", showSeries(a, api.OK), showSeries(b, api.OK), same)
		}
	}
	want(begin(), begin(), true)
	want(nil, nil, true)
	want(nil, []api.Series{}, true)
	want([]api.Series{{}}, []api.Series{{L: []api.Label{}, S: []api.Sample{}}}, true)
	want(nil, []api.Series{{}}, false)
	for _, change := range []func([]api.Series) []api.Series{
		func(l []api.Series) []api.Series { return l[:1] }, func(l []api.Series) []api.Series { return nil }, func(l []api.Series) []api.Series { return append(l, api.Series{}) },
		func(l []api.Series) []api.Series { slices.Reverse(l); return l },
		func(l []api.Series) []api.Series { l[0].L[0].Name = "b"; return l }, func(l []api.Series) []api.Series { l[1].L[1].Value = "1"; return l },
		func(l []api.Series) []api.Series { l[1].L = l[1].L[:1]; return l }, func(l []api.Series) []api.Series { l[0].L = nil; return l },
		func(l []api.Series) []api.Series { l[0].S = l[0].S[:1]; return l }, func(l []api.Series) []api.Series { l[1].S = nil; return l },
		func(l []api.Series) []api.Series { l[0].S[1].T = 3; return l }, func(l []api.Series) []api.Series { l[0].S[1].V = minus; return l },
		func(l []api.Series) []api.Series { l[0].S[0].V = 1; return l }, func(l []api.Series) []api.Series { l[1].S[0].V = 5; return l },
		func(l []api.Series) []api.Series { l[1].S = append(l[1].S, api.Sample{T: 2}); return l },
	} {
		want(begin(), change(begin()), false)
	}
	for _, v := range []float64{odd, stale} {
		l := begin()
		l[0].S[0].V = v
		want(begin(), l, true)
	}
}

// roomy answers a copy of n all of whose lists have room behind them, that is told by spare.
func roomy(n ir.Node) ir.Node {
	n.M = append(slices.Grow([]api.Matcher{}, len(n.M)+2), n.M...)
	for _, l := range []*[]string{&n.G.Names, &n.X.G.Names, &n.X.Include} {
		*l = append(slices.Grow([]string{}, len(*l)+2), *l...)
	}
	kids := slices.Grow([]ir.Node{}, len(n.Kids)+2)
	for _, k := range n.Kids {
		kids = append(kids, roomy(k))
	}
	n.Kids = kids
	return n
}

// whole tells all that a plan's lists hold, their room too.
func whole(n ir.Node) string {
	s := fmt.Sprintf("%d %X %d %v %d %d %d %v %q %q %q %v %q %q %d (", n.Kind, math.Float64bits(n.Num), n.Fn, n.M[:cap(n.M)], n.Range, n.Step, n.Offset,
		n.G.How, n.G.Names[:cap(n.G.Names)], n.X.G.Names[:cap(n.X.G.Names)], n.X.Include[:cap(n.X.Include)], n.Flag, n.Name, n.Value, len(n.Kids))
	for _, k := range n.Kids[:cap(n.Kids)] {
		s += whole(k)
	}
	return s + ")"
}

// scrawl overwrites all that an answer's lists hold, their room too.
func scrawl(v vector.Vec, l []api.Series) {
	v = v[:cap(v)]
	for i := range v {
		scrawlLabels(v[i].L)
		v[i] = point(99, "scrawl", "99")
	}
	l = l[:cap(l)]
	for i := range l {
		scrawlLabels(l[i].L)
		s := l[i].S[:cap(l[i].S)]
		for k := range s {
			s[k] = api.Sample{T: -99, V: 99}
		}
		l[i] = api.Series{L: list("scrawl", "99")}
	}
}

func scrawlLabels(l []api.Label) {
	l = l[:cap(l)]
	for i := range l {
		l[i] = api.Label{Name: "scrawl", Value: "99"}
	}
}

func wholeStore(s *store.Store) string {
	var l []api.Series
	for i := range s.Len() {
		x, _ := s.Series(i)
		l = append(l, x)
	}
	return showSeries(l, api.OK)
}

// TestP2Memory: plans and stores stay as they are; what was answered may be overwritten, and nothing that is
// answered later tells of it.
func TestP2Memory(t *testing.T) {
	for seed := range 600 {
		m := &maker{scatter(uint64(seed), 900, 1<<30)}
		n := roomy(m.node(m.of(5), m.of(6)))
		s := storeOf(t, m.raws())
		was, held := whole(n), wholeStore(s)
		g := api.Grid{Start: 5, End: 15, Step: 5}
		v, err := walk.At(n, s, 9, 15)
		l, lErr := walk.Query(n, s, 9, g)
		value, series := show(v, err), showSeries(l, lErr)
		walk.Same(l, l)
		walk.Known(l)
		if showSeries(l, lErr) != series {
			t.Errorf("%s: Same or Known changed what they were handed", ir.Text(n))
		}
		scrawl(v.Vec, nil)
		if showSeries(l, lErr) != series {
			t.Errorf("%s: two answers share memory", ir.Text(n))
		}
		scrawl(nil, l)
		v, err = walk.At(n, s, 9, 15)
		l, lErr = walk.Query(n, s, 9, g)
		if show(v, err) != value || showSeries(l, lErr) != series {
			t.Errorf("%s: another answer, the second time", ir.Text(n))
		}
		wantApart(t, n, v.Vec, l)
		if whole(n) != was || wholeStore(s) != held {
			t.Errorf("%s: the plan, or the store, has changed", ir.Text(n))
		}
	}
}

// wantApart asks that no list of an answer is changed by what is written behind another one's end.
func wantApart(t *testing.T, n ir.Node, v vector.Vec, l []api.Series) {
	t.Helper()
	points, series := show(walk.Value{Vec: v}, api.OK), showSeries(l, api.OK)
	_ = append(v, point(99, "scrawl", "99"))
	_ = append(l, api.Series{L: list("scrawl", "99")})
	for _, p := range v {
		_ = append(p.L, list("scrawl", "99")...)
	}
	for _, x := range l {
		_ = append(x.L, list("scrawl", "99")...)
		_ = append(x.S, api.Sample{T: 99, V: 99})
	}
	if show(walk.Value{Vec: v}, api.OK) != points || showSeries(l, api.OK) != series {
		t.Errorf("%s: lists of one answer share memory", ir.Text(n))
	}
	for i, p := range v {
		scrawlLabels(p.L)
		for _, q := range v[i+1:] {
			if get(q.L, "scrawl") != "" {
				t.Errorf("%s: two points share labels", ir.Text(n))
			}
		}
	}
	for i, x := range l {
		scrawlLabels(x.L)
		for _, y := range l[i+1:] {
			if get(y.L, "scrawl") != "" {
				t.Errorf("%s: two series share labels", ir.Text(n))
			}
		}
	}
}

// TestP2SharedKids: one list of kids may stand in several places of a plan.
func TestP2SharedKids(t *testing.T) {
	s := few(t)
	kids := []ir.Node{sel("m"), sel("m")}
	n := op(api.Add, ir.Node{Kind: ir.Binary, Fn: api.Mul, Kids: kids}, ir.Node{Kind: ir.Binary, Fn: api.Sub, Kids: kids})
	wantVec(t, n, s, 3000, point(9, "x", "1"), point(900, "x", "2"))
}

// TestP3TheSameAgain: the same calls answer the same, also beside others.
func TestP3TheSameAgain(t *testing.T) {
	m := &maker{scatter(11, 900, 1<<30)}
	s := storeOf(t, m.raws())
	var plans []ir.Node
	for seed := range 40 {
		m := &maker{scatter(uint64(seed), 900, 1<<30)}
		plans = append(plans, m.node(4, m.of(6)))
	}
	ask := func() string {
		out := ""
		for _, n := range plans {
			l, err := walk.Query(n, s, 4, api.Grid{Start: -3, End: 21, Step: 2})
			out += showSeries(l, err) + "\n"
		}
		return out
	}
	was := ask()
	answers := make(chan string)
	for range 8 {
		go func() { answers <- ask() }()
	}
	for range 8 {
		if <-answers != was {
			t.Error("another answer, beside others")
		}
	}
}

// TestP1Plain: whatever plain data is given, each call ends and none panics.
func TestP1Plain(t *testing.T) {
	s := few(t)
	numbers := []int{math.MinInt, math.MinInt + 1, -1 << 50, -1, 0, 1, 2, 14, 1 << 20, 1 << 50, math.MaxInt - 1, math.MaxInt}
	for seed := range 4000 {
		m := &maker{scatter(uint64(seed), 900, 1<<30)}
		n := m.node(3, m.of(2))
		broken(m, &n, numbers)
		for range 3 {
			if _, err := walk.At(n, s, pick(m, pick(m, numbers...), 5, 5), pick(m, pick(m, numbers...), 5)); err < api.OK || err > api.ErrLimit {
				t.Errorf("%v", err)
			}
			g := api.Grid{Start: pick(m, pick(m, numbers...), 0), End: pick(m, pick(m, numbers...), 3), Step: pick(m, pick(m, numbers...), 1)}
			if _, err := walk.Query(n, s, pick(m, pick(m, numbers...), 5, 5), g); err < api.OK || err > api.ErrLimit {
				t.Errorf("%v", err)
			}
		}
	}
	deep := num(1)
	for range 199 {
		deep = mapped(api.FAbs, 0, deep)
	}
	wantErr(t, deep, s, 1, 0, api.ErrLimit)
	wantErr(t, on(num(1), make([]ir.Node, 4000)...), s, 1, 0, api.ErrLimit)
	walk.Known([]api.Series{{L: []api.Label{{}, {}}, S: make([]api.Sample, 9)}, {}})
	walk.Same([]api.Series{{}}, []api.Series{{L: make([]api.Label, 99)}})
}

// broken sets some field of some node to what may not be, or seldom is.
func broken(m *maker, n *ir.Node, numbers []int) {
	at := n
	for len(at.Kids) > 0 && m.of(3) > 0 {
		at = &at.Kids[m.of(len(at.Kids))]
	}
	for _, field := range []*int{&at.Kind, &at.Fn, &at.Range, &at.Step, &at.Offset, &at.G.How, &at.X.Card, &at.X.G.How} {
		if m.of(6) == 0 {
			*field = pick(m, numbers...)
		}
	}
	if m.of(4) == 0 {
		at.Kids = append(at.Kids, ir.Node{})
	}
	if m.of(4) == 0 {
		at.M = append(at.M, api.Matcher{Kind: m.of(6), Name: pick(m, "x", ""), Value: pick(m, "(", "\xff")})
	}
}
