package vec_test

import (
	"fmt"
	"math"
	"slices"
	"strings"
	"testing"

	"isobar/api"
	"isobar/fval"
	"isobar/ir"
	"isobar/labels"
	"isobar/store"
	"isobar/vec"
	"isobar/walk"
	"isobar/window"
)

var (
	inf   = math.Inf(1)
	minus = math.Copysign(0, -1)
	nan   = math.Float64frombits(0x7FF8000000000001)
	stale = math.Float64frombits(0x7FF0000000000002)
	odd   = math.Float64frombits(0xFFF8000000000007)
)

const (
	roomy = 1000
	far   = 1 << 50
)

// values are of all kinds that arithmetic may tell apart.
var values = []float64{0, minus, 1, -1, 2, -2.5, 0.1, 0.2, 5e-324, math.MaxFloat64, -math.MaxFloat64, inf, -inf, nan, stale, odd}

// list answers labels of names and values that take turns.
func list(l ...string) []api.Label {
	var out []api.Label
	for i := 0; i < len(l); i += 2 {
		out = append(out, api.Label{Name: l[i], Value: l[i+1]})
	}
	return out
}

// metric answers labels with a metric's name.
func metric(name string, l ...string) []api.Label {
	return append(list(api.Name, name), list(l...)...)
}

// raws answers samples of one series, of times and values that take turns.
func raws(l []api.Label, s ...float64) []store.Raw {
	var out []store.Raw
	for i := 0; i < len(s); i += 2 {
		out = append(out, store.Raw{L: l, T: int(s[i]), V: s[i+1]})
	}
	return out
}

func storeOf(t *testing.T, l ...[]store.Raw) *store.Store {
	t.Helper()
	s, err := store.New(slices.Concat(l...)...)
	if err != api.OK {
		t.Fatal(err)
	}
	return s
}

func equal(name, value string) api.Matcher {
	return api.Matcher{Kind: api.Equal, Name: name, Value: value}
}

func like(name, value string) api.Matcher {
	return api.Matcher{Kind: api.Like, Name: name, Value: value}
}

func named(name string) []api.Matcher {
	return []api.Matcher{equal(api.Name, name)}
}

func num(v float64) ir.Node { return ir.Node{Kind: ir.Const, Num: v} }

func now() ir.Node { return ir.Node{Kind: ir.Time} }

func empty() ir.Node { return ir.Node{Kind: ir.Empty} }

func sel(name string) ir.Node { return ir.Node{Kind: ir.Select, M: named(name)} }

func all() ir.Node { return ir.Node{Kind: ir.Select} }

// late answers n, asked as long before as offset tells.
func late(offset int, n ir.Node) ir.Node {
	n.Offset = offset
	return n
}

// win answers a Window; sub a Sub, of a kid.
func win(fn int, name string, length, offset int) ir.Node {
	return ir.Node{Kind: ir.Window, Fn: fn, M: named(name), Range: length, Offset: offset}
}

func sub(fn, length, step, offset int, k ir.Node) ir.Node {
	return on(ir.Node{Kind: ir.Sub, Fn: fn, Range: length, Step: step, Offset: offset}, k)
}

func on(n ir.Node, kids ...ir.Node) ir.Node {
	n.Kids = kids
	return n
}

func mapped(fn int, v float64, k ir.Node) ir.Node {
	return on(ir.Node{Kind: ir.Map, Fn: fn, Num: v}, k)
}

func op(fn int, a, b ir.Node) ir.Node {
	return on(ir.Node{Kind: ir.Binary, Fn: fn}, a, b)
}

func flagged(n ir.Node) ir.Node {
	n.Flag = true
	return n
}

func matched(m api.Match, n ir.Node) ir.Node {
	n.X = m
	return n
}

func grouped(fn int, g api.Group, k float64, kid ir.Node) ir.Node {
	return on(ir.Node{Kind: ir.Agg, Fn: fn, G: g, Num: k}, kid)
}

func label(name, value string, k ir.Node) ir.Node {
	return on(ir.Node{Kind: ir.Label, Name: name, Value: value}, k)
}

func absent(k ir.Node, m ...api.Matcher) ir.Node {
	return on(ir.Node{Kind: ir.Absent, M: m}, k)
}

func toScalar(k ir.Node) ir.Node { return on(ir.Node{Kind: ir.ToScalar}, k) }

func toVector(k ir.Node) ir.Node { return on(ir.Node{Kind: ir.ToVector}, k) }

func by(names ...string) api.Group { return api.Group{How: api.By, Names: names} }

func grid(start, end, step int) api.Grid { return api.Grid{Start: start, End: end, Step: step} }

// number tells v so that all values have texts of their own, NaNs of other bits than the common one's too.
func number(v float64) string {
	if v != v && math.Float64bits(v) != math.Float64bits(nan) {
		return fmt.Sprintf("%X", math.Float64bits(v))
	}
	return fval.Text(v)
}

// told tells an answer: the error, and each series as labels, times and values.
func told(l []api.Series, err api.Errno) string {
	s := err.Error()
	for _, x := range l {
		s += "; " + labels.Text(x.L)
		for _, p := range x.S {
			s += fmt.Sprintf(" %d:%s", p.T, number(p.V))
		}
	}
	return s
}

func toldColumn(c window.Column) string {
	s := ""
	for _, v := range c.V {
		s += number(v) + " "
	}
	return s + fmt.Sprint(c.Has)
}

// wantRun asks for an answer that is written out, and is walk's.
func wantRun(t *testing.T, n ir.Node, s *store.Store, most int, g api.Grid, want string) {
	t.Helper()
	l, err := vec.Run(n, s, most, g)
	if got := told(l, err); got != want {
		t.Errorf("%s at %v, most %d:\n%s instead of\n%s", ir.Text(n), g, most, got, want)
	}
	wantWalk(t, n, s, most, g)
}

// wantWalk asks for walk's answer, and tells its error.
func wantWalk(t *testing.T, n ir.Node, s *store.Store, most int, g api.Grid) api.Errno {
	t.Helper()
	l, err := vec.Run(n, s, most, g)
	k, kErr := walk.Query(n, s, most, g)
	if told(l, err) != told(k, kErr) {
		t.Errorf("%s at %v, most %d:\n%s instead of walk's\n%s", ir.Text(n), g, most, told(l, err), told(k, kErr))
	}
	return err
}

// few answers a store with: a of x 1, that ends at 30, and of x 2, that begins at 10; b of x 1 at 0 alone; d1 and
// d2, one series without their names, which are both there from 20 up to 30; e of x 1 and x 2 from 30 up to 40.
func few(t *testing.T) *store.Store {
	t.Helper()
	return storeOf(t,
		raws(metric("a", "x", "1"), 0, 1, 10, 2, 20, 4, 30, stale),
		raws(metric("a", "x", "2"), 10, -3, 40, 8),
		raws(metric("b", "x", "1"), 0, 5),
		raws(metric("d1", "k", "d"), 10, 1, 30, stale), raws(metric("d2", "k", "d"), 20, 2, 40, stale),
		raws(metric("e", "x", "1"), 30, 1, 40, stale), raws(metric("e", "x", "2"), 30, 1, 40, stale))
}

// dup answers a plan that is ErrDup from 20 up to 30; many one that is ErrMany from 30 up to 40.
func dup() ir.Node {
	return mapped(api.FAbs, 0, ir.Node{Kind: ir.Select, M: []api.Matcher{equal("k", "d")}})
}

func many() ir.Node {
	return matched(api.Match{G: by()}, op(api.Add, sel("e"), sel("e")))
}

// TestP1401Args: the grid's error ahead of most's, that ahead of the plan's, that ahead of those that come later.
func TestP1401Args(t *testing.T) {
	s := few(t)
	wrong := op(api.And, num(1), num(1))
	for _, n := range []ir.Node{num(1), wrong, dup()} {
		for _, most := range []int{0, 1, roomy} {
			for _, g := range []api.Grid{{}, {Step: -1}, {Start: 1, Step: 1}, grid(-far-1, 0, far), grid(0, far+1, far), {Step: far + 1}, grid(math.MinInt, math.MaxInt, 1)} {
				wantRun(t, n, s, most, g, "arg")
			}
			for _, g := range []api.Grid{grid(0, 4096, 1), grid(-far, far, 1)} {
				wantRun(t, n, s, most, g, "limit")
			}
		}
		for _, most := range []int{math.MinInt, -1, 0, 1<<20 + 1, math.MaxInt} {
			wantRun(t, n, s, most, grid(20, 20, 1), "arg")
		}
	}
	deep := num(1)
	for range api.MaxDepth {
		deep = mapped(api.FAbs, 0, deep)
	}
	for want, l := range map[string][]ir.Node{
		"arg":   {{}, {Kind: 14}, on(num(1), num(2)), on(empty(), dup()), late(far+1, all()), sub(api.WSum, 1, 0, 0, dup()), op(15, dup(), dup()), op(0, num(1), num(2)), mapped(6, 0, dup())},
		"form":  {{Kind: ir.Select, M: []api.Matcher{like("x", "(")}}, op(api.Add, dup(), ir.Node{Kind: ir.Window, M: []api.Matcher{like("x", "[")}})},
		"type":  {wrong, toScalar(num(1)), toVector(empty()), op(api.Add, dup(), toScalar(num(1))), op(api.Eq, num(1), num(1))},
		"limit": {deep, sub(api.WSum, 1001, 1, 0, num(1)), mapped(api.FAbs, 0, deep)},
	} {
		for _, n := range l {
			for _, most := range []int{1, roomy, 1 << 20} {
				wantRun(t, n, s, most, grid(20, 20, 1), want)
			}
		}
	}
	wantRun(t, deep.Kids[0], s, 1, grid(20, 20, 1), "ok; {} 20:1")
}

// TestP1401Leaves: Const, Time, Select, Window, Empty at the points of a grid.
func TestP1401Leaves(t *testing.T) {
	s := few(t)
	g := grid(-5, 40, 15)
	for v, want := range map[float64]string{1.5: "1.5", inf: "+Inf"} {
		wantRun(t, num(v), s, 1, g, "ok; {} -5:"+want+" 10:"+want+" 25:"+want+" 40:"+want)
	}
	for v, want := range map[*float64]string{&minus: "-0", &stale: "NaN", &odd: "NaN"} {
		wantRun(t, num(*v), s, 1, grid(7, 7, 1), "ok; {} 7:"+want)
	}
	wantRun(t, now(), s, 1, g, "ok; {} -5:-0.005 10:0.01 25:0.025 40:0.04")
	wantRun(t, now(), s, 1, grid(-far, far, far), "ok; {} -1125899906842624:-1.125899906842624e+12 0:0 1125899906842624:1.125899906842624e+12")
	wantRun(t, empty(), s, 1, g, "ok")
	wantRun(t, sel("a"), s, 2, grid(-10, 40, 10), `ok; a{x="1"} 0:1 10:2 20:4; a{x="2"} 10:-3 20:-3 30:-3 40:8`)
	wantRun(t, late(5, sel("a")), s, 2, grid(0, 45, 15), `ok; a{x="1"} 15:2 30:4; a{x="2"} 15:-3 30:-3 45:8`)
	wantRun(t, late(-40, sel("a")), s, 2, grid(-40, 0, 20), `ok; a{x="1"} -40:1 -20:4; a{x="2"} -20:-3 0:8`)
	wantRun(t, sel("none"), s, 1, g, "ok")
	wantRun(t, sel("b"), s, 1, grid(-1, 300001, 150001), `ok; b{x="1"} 150000:5`)
	wantRun(t, sel("b"), s, 1, grid(299999, 300000, 1), `ok; b{x="1"} 299999:5`)
	wantRun(t, win(api.WSum, "a", 15, 0), s, 2, grid(-10, 60, 10), `ok; {x="1"} 0:1 10:3 20:6 30:4; {x="2"} 10:-3 20:-3 40:8 50:8`)
	wantRun(t, win(api.WCount, "a", 10, 1), s, 2, grid(0, 50, 10), `ok; {x="1"} 10:1 20:1 30:1; {x="2"} 20:1 50:1`)
	wantRun(t, win(api.WDelta, "a", 1000, -5), s, 2, grid(-5, 45, 10), `ok; {x="1"} 5:1 15:3 25:3 35:3 45:3; {x="2"} 35:11 45:11`)
	wantRun(t, win(api.WRate, "a", 500, 0), s, 2, grid(20, 20, 1), `ok; {x="1"} 20:6`)
	wantRun(t, win(api.WSum, "none", 15, 0), s, 1, g, "ok")
	ends := storeOf(t, raws(list("x", "1"), -far, 1, 0, 2, far, 3))
	wantRun(t, all(), ends, 1, grid(-far, far, far), `ok; {x="1"} -1125899906842624:1 0:2 1125899906842624:3`)
	wantRun(t, late(far, all()), ends, 1, grid(-far, far, far), `ok; {x="1"} 0:1 1125899906842624:2`)
	wantRun(t, late(-far, all()), ends, 1, grid(-far, far, far), `ok; {x="1"} -1125899906842624:2 0:3`)
	wantRun(t, ir.Node{Kind: ir.Window, Fn: api.WCount, Range: far}, ends, 1, grid(-far, far, far), `ok; {x="1"} -1125899906842624:1 0:1 1125899906842624:1`)
	wantRun(t, ir.Node{Kind: ir.Window, Fn: api.WSum, Range: far, Offset: -far}, ends, 1, grid(-far, far, far), `ok; {x="1"} -1125899906842624:2 0:3`)
}

// TestP1401Kinds: what nodes make of their kids, at points at which these have other series.
func TestP1401Kinds(t *testing.T) {
	s := few(t)
	a, b, g := sel("a"), sel("b"), grid(0, 40, 10)
	without := func(names ...string) api.Group { return api.Group{How: api.Without, Names: names} }
	for _, c := range []struct {
		n    ir.Node
		want string
	}{
		{mapped(api.FAbs, 9, a), `{x="1"} 0:1 10:2 20:4; {x="2"} 10:3 20:3 30:3 40:8`},
		{mapped(api.FMin, 2, a), `{x="1"} 0:2 10:2 20:4; {x="2"} 10:2 20:2 30:2 40:8`},
		{mapped(api.FMax, nan, b), `{x="1"} 0:NaN 10:NaN 20:NaN 30:NaN 40:NaN`},
		{mapped(api.FNeg, 0, now()), `{} 0:-0 10:-0.01 20:-0.02 30:-0.03 40:-0.04`},
		{grouped(api.ASum, api.Group{}, 0, a), `{} 0:1 10:-1 20:1 30:-3 40:8`},
		{grouped(api.ACount, api.Group{}, 0, a), `{} 0:1 10:2 20:2 30:1 40:1`},
		{grouped(api.AMin, by(api.Name), 0, a), `a 0:1 10:-3 20:-3 30:-3 40:8`},
		{grouped(api.AMax, without("x"), 0, a), `{} 0:1 10:2 20:4 30:-3 40:8`},
		{grouped(api.AAvg, by("y"), 0, a), `{} 0:1 10:-0.5 20:0.5 30:-3 40:8`},
		{grouped(api.AGroup, by("x"), 0, a), `{x="1"} 0:1 10:1 20:1; {x="2"} 10:1 20:1 30:1 40:1`},
		{grouped(api.ASum, by("x"), 0, op(api.Or, a, label("x", "2", b))), `{x="1"} 0:1 10:2 20:4; {x="2"} 0:5 10:-3 20:-3 30:-3 40:8`},
		{grouped(api.ATop, api.Group{}, 1, a), `a{x="1"} 0:1 10:2 20:4; a{x="2"} 30:-3 40:8`},
		{grouped(api.ABottom, api.Group{}, 1.9, a), `a{x="1"} 0:1; a{x="2"} 10:-3 20:-3 30:-3 40:8`},
		{grouped(api.ATop, by("x"), 1, a), `a{x="1"} 0:1 10:2 20:4; a{x="2"} 10:-3 20:-3 30:-3 40:8`},
		{grouped(api.ATop, api.Group{}, inf, a), `a{x="1"} 0:1 10:2 20:4; a{x="2"} 10:-3 20:-3 30:-3 40:8`},
		{grouped(api.ABottom, api.Group{}, 2, op(api.Or, a, b)), `a{x="1"} 0:1 10:2 20:4; a{x="2"} 10:-3 20:-3 30:-3 40:8; b{x="1"} 30:5 40:5`},
		{label("x", "9", b), `b{x="9"} 0:5 10:5 20:5 30:5 40:5`},
		{label(api.Name, "", a), `{x="1"} 0:1 10:2 20:4; {x="2"} 10:-3 20:-3 30:-3 40:8`},
		{label(api.Name, "c", op(api.Lt, a, num(0))), `c{x="2"} 10:-3 20:-3 30:-3`},
		{label("x", "0", op(api.Lt, a, num(0))), `a{x="0"} 10:-3 20:-3 30:-3`},
		{absent(op(api.Lt, a, num(0)), equal("x", "1"), equal(api.Name, "a"), like("y", "1")), `{x="1"} 0:1 40:1`},
		{absent(b), ``}, {absent(empty()), `{} 0:1 10:1 20:1 30:1 40:1`},
		{toScalar(a), `{} 0:1 10:NaN 20:NaN 30:-3 40:8`}, {toScalar(empty()), `{} 0:NaN 10:NaN 20:NaN 30:NaN 40:NaN`},
		{toVector(now()), `{} 0:0 10:0.01 20:0.02 30:0.03 40:0.04`}, {toVector(toScalar(op(api.Gt, a, num(3)))), `{} 0:NaN 10:NaN 20:4 30:NaN 40:8`},
		{sub(api.WSum, 20, 10, 0, a), `{x="1"} 0:1 10:3 20:6 30:4; {x="2"} 10:-3 20:-6 30:-6 40:5`},
		{sub(api.WCount, 9, 5, 1, a), `{x="1"} 10:1 20:1 30:1; {x="2"} 20:1 30:1 40:1`},
		{sub(api.WCount, 8, 10, 1, a), ``}, {sub(api.WLast, 10, 10, 1, now()), `{} 0:-0.01 10:0 20:0.01 30:0.02 40:0.03`},
		{sub(api.WRate, 20, 10, -10, mapped(api.FAbs, 0, a)), `{x="1"} 0:50 10:100; {x="2"} 10:0 20:0 30:250 40:0`},
		{sub(api.WIncrease, 20, 10, 0, now()), `{} 0:0.01 10:0.01 20:0.01 30:0.009999999999999998 40:0.010000000000000002`},
	} {
		wantRun(t, c.n, s, roomy, g, strings.TrimSuffix("ok; "+c.want, "; "))
	}
}

// TestP1401Pairs: what operators make of two values, at points at which these have other series.
func TestP1401Pairs(t *testing.T) {
	s := few(t)
	a, b, g := sel("a"), sel("b"), grid(0, 40, 10)
	onto := func(card int, include ...string) api.Match {
		return api.Match{G: by(), Card: card, Include: include}
	}
	for _, c := range []struct {
		n    ir.Node
		want string
	}{
		{op(api.Sub, num(1), now()), `{} 0:1 10:0.99 20:0.98 30:0.97 40:0.96`},
		{flagged(op(api.Ge, mapped(api.FSgn, 0, now()), num(1))), `{} 0:0 10:1 20:1 30:1 40:1`},
		{op(api.Sub, a, num(1)), `{x="1"} 0:0 10:1 20:3; {x="2"} 10:-4 20:-4 30:-4 40:7`},
		{op(api.Sub, num(1), a), `{x="1"} 0:0 10:-1 20:-3; {x="2"} 10:4 20:4 30:4 40:-7`},
		{op(api.Div, b, op(api.Mul, now(), num(100))), `{x="1"} 0:+Inf 10:5 20:2.5 30:1.6666666666666667 40:1.25`},
		{op(api.Gt, a, num(1)), `a{x="1"} 10:2 20:4; a{x="2"} 40:8`}, {op(api.Gt, num(1), a), `a{x="2"} 10:-3 20:-3 30:-3`},
		{op(api.Ne, a, num(-3)), `a{x="1"} 0:1 10:2 20:4; a{x="2"} 40:8`}, {op(api.Eq, num(nan), a), ``},
		{flagged(op(api.Gt, a, num(1))), `{x="1"} 0:0 10:1 20:1; {x="2"} 10:0 20:0 30:0 40:1`},
		{flagged(op(api.Le, num(2), a)), `{x="1"} 0:0 10:1 20:1; {x="2"} 10:0 20:0 30:0 40:1`},
		{op(api.Add, empty(), num(1)), ``}, {op(api.Add, num(1), empty()), ``},
		{op(api.Deft, op(api.Gt, a, num(2)), now()), `{} 0:0 10:0.01 30:0.03; a{x="1"} 20:4; a{x="2"} 40:8`},
		{op(api.Deft, op(api.Gt, toVector(now()), num(0.02)), num(7)), `{} 0:7 10:7 20:7 30:0.03 40:0.04`},
		{op(api.Deft, b, num(7)), `b{x="1"} 0:5 10:5 20:5 30:5 40:5`}, {op(api.Deft, empty(), num(odd)), `{} 0:NaN 10:NaN 20:NaN 30:NaN 40:NaN`},
		{op(api.Add, a, b), `{x="1"} 0:6 10:7 20:9`}, {op(api.Sub, b, a), `{x="1"} 0:4 10:3 20:1`},
		{op(api.Lt, a, b), `{x="1"} 0:1 10:2 20:4`}, {op(api.Gt, b, a), `{x="1"} 0:5 10:5 20:5`}, {flagged(op(api.Eq, a, b)), `{x="1"} 0:0 10:0 20:0`}, {op(api.Eq, a, b), ``},
		{matched(api.Match{G: by(api.Name)}, op(api.Add, op(api.Eq, a, num(-3)), op(api.Eq, a, num(-3)))), `a 10:-6 20:-6 30:-6`},
		{matched(onto(api.ManyOne), op(api.Sub, a, b)), `{x="1"} 0:-4 10:-3 20:-1; {x="2"} 10:-8 20:-8 30:-8 40:3`},
		{matched(onto(api.OneMany), op(api.Sub, b, a)), `{x="1"} 0:4 10:3 20:1; {x="2"} 10:8 20:8 30:8 40:-3`},
		{matched(onto(api.ManyOne), op(api.Gt, a, op(api.Add, toVector(now()), num(0.97)))), `{x="1"} 0:1 10:2 20:4; {x="2"} 40:8`},
		{matched(onto(api.OneMany), op(api.Lt, op(api.Add, toVector(now()), num(1.98)), a)), `{x="1"} 10:1.99 20:2; {x="2"} 40:2.02`},
		{flagged(matched(onto(api.OneMany), op(api.Lt, op(api.Add, toVector(now()), num(1.98)), a))), `{x="1"} 0:0 10:1 20:1; {x="2"} 10:0 20:0 30:0 40:1`},
		{matched(onto(api.ManyOne, "x"), op(api.Add, b, op(api.Ge, a, num(4)))), `{x="1"} 20:9; {x="2"} 40:13`},
		{matched(onto(api.OneMany, "x", api.Name), op(api.Add, op(api.Ge, a, num(4)), b)), `a{x="1"} 20:9; a{x="2"} 40:13`},
		{op(api.And, a, b), `a{x="1"} 0:1 10:2 20:4`}, {op(api.And, b, a), `b{x="1"} 0:5 10:5 20:5`}, {op(api.Less, a, b), `a{x="2"} 10:-3 20:-3 30:-3 40:8`}, {op(api.Less, b, a), `b{x="1"} 30:5 40:5`},
		{op(api.Or, a, b), `a{x="1"} 0:1 10:2 20:4; a{x="2"} 10:-3 20:-3 30:-3 40:8; b{x="1"} 30:5 40:5`}, {op(api.Deft, op(api.Gt, a, num(3)), a), `a{x="1"} 0:1 10:2 20:4; a{x="2"} 10:-3 20:-3 30:-3 40:8`},
		{matched(api.Match{G: by()}, op(api.And, b, op(api.Lt, a, num(0)))), `b{x="1"} 10:5 20:5 30:5`}, {matched(api.Match{G: by()}, op(api.Less, b, op(api.Lt, a, num(0)))), `b{x="1"} 0:5 40:5`},
		{matched(api.Match{G: by()}, op(api.Deft, op(api.Lt, a, num(0)), b)), `a{x="2"} 10:-3 20:-3 30:-3; b{x="1"} 0:5 40:5`},
		{op(api.And, empty(), a), ``}, {op(api.And, a, empty()), ``}, {op(api.Less, a, empty()), `a{x="1"} 0:1 10:2 20:4; a{x="2"} 10:-3 20:-3 30:-3 40:8`}, {op(api.Or, empty(), b), `b{x="1"} 0:5 10:5 20:5 30:5 40:5`},
	} {
		wantRun(t, c.n, s, roomy, g, strings.TrimSuffix("ok; "+c.want, "; "))
	}
}

// TestP1401FirstError: the error of the earliest point, whichever node has it; at one point that of the node that
// is done first; a node's own ahead of its limit.
func TestP1401FirstError(t *testing.T) {
	s := few(t)
	a, d := sel("a"), late(10, dup().Kids[0])
	dupLater := mapped(api.FAbs, 0, d) // ErrDup from 30 up to 40, as many is ErrMany
	onto := func(n ir.Node) ir.Node { return matched(api.Match{G: by()}, n) }
	for _, c := range []struct {
		n    ir.Node
		most int
		g    api.Grid
		want string
	}{
		{dup(), roomy, grid(0, 40, 10), "dup"}, {dup(), roomy, grid(20, 20, 1), "dup"}, {dup(), roomy, grid(29, 50, 21), "dup"},
		{dup(), roomy, grid(0, 19, 10), `ok; {k="d"} 10:1`}, {dup(), roomy, grid(19, 35, 11), `ok; {k="d"} 19:1 30:2`},
		{many(), roomy, grid(0, 40, 10), "many"}, {many(), roomy, grid(0, 29, 1), "ok"}, {many(), roomy, grid(40, 50, 1), "ok"},
		{op(api.Or, many(), dup()), roomy, grid(0, 40, 10), "dup"}, {op(api.Or, dup(), many()), roomy, grid(0, 40, 10), "dup"},
		{op(api.Or, many(), dup()), roomy, grid(30, 40, 10), "many"}, {op(api.Or, dup(), many()), roomy, grid(30, 40, 10), "many"},
		{op(api.Or, many(), dupLater), roomy, grid(0, 40, 10), "many"}, {op(api.Or, dupLater, many()), roomy, grid(0, 40, 10), "dup"},
		{op(api.Add, toScalar(many()), toScalar(dupLater)), roomy, grid(0, 40, 10), "many"}, {op(api.Add, toScalar(dupLater), toScalar(many())), roomy, grid(0, 40, 10), "dup"},
		{op(api.And, empty(), op(api.Or, dupLater, many())), roomy, grid(0, 40, 10), "dup"}, {op(api.Deft, a, toScalar(many())), roomy, grid(0, 40, 10), "many"},
		{onto(op(api.Add, op(api.Or, a, dup()), op(api.Or, a, dup()))), roomy, grid(0, 40, 10), "many"}, {onto(op(api.Add, op(api.Or, a, dup()), op(api.Or, a, dup()))), roomy, grid(20, 40, 10), "dup"},
		{label("k", "9", op(api.Or, d, many())), roomy, grid(0, 40, 10), "many"}, {mapped(api.FAbs, 0, op(api.Or, d, op(api.And, many(), dup()))), roomy, grid(30, 40, 10), "many"},
		{op(api.Or, a, dup()), 1, grid(0, 40, 10), "limit"}, {op(api.Or, dup(), a), 1, grid(20, 40, 10), "limit"}, {op(api.Or, dup(), a), 2, grid(20, 40, 10), "dup"}, {op(api.Or, a, dup()), 1, grid(0, 9, 1), `ok; a{x="1"} 0:1 1:1 2:1 3:1 4:1 5:1 6:1 7:1 8:1 9:1`},
		{op(api.Or, op(api.Or, a, sel("b")), dup()), 3, grid(0, 40, 10), "dup"}, {op(api.Or, op(api.Or, a, sel("b")), dup()), 2, grid(0, 40, 10), "limit"}, {op(api.Or, op(api.Or, a, sel("b")), many()), 2, grid(10, 50, 10), "many"},
		{op(api.Or, op(api.Or, a, sel("d1")), many()), 2, grid(0, 40, 10), "limit"}, {op(api.Or, op(api.Or, a, sel("d1")), many()), 2, grid(30, 40, 10), "many"},
	} {
		wantRun(t, c.n, s, c.most, c.g, c.want)
	}
	turns := storeOf(t, raws(metric("d1", "k", "d"), 0, 1, 10, stale), raws(metric("d2", "k", "d"), 10, 2))
	wantRun(t, sub(api.WSum, 20, 10, 0, all()), turns, 1, grid(0, 30, 10), "dup")
	wantRun(t, sub(api.WSum, 20, 10, 0, label("k", "", all())), turns, 1, grid(0, 30, 10), "dup")
	wantRun(t, sub(api.WSum, 20, 10, 0, label(api.Name, "", all())), turns, 1, grid(0, 30, 10), `ok; {k="d"} 0:1 10:3 20:4 30:4`)
}

// TestP1401Limit: nodes at as many points as may be, and at one more; those of several times are not counted
// together.
func TestP1401Limit(t *testing.T) {
	var l [][]store.Raw
	for i := range 4 {
		l = append(l, raws(metric("m", "x", fmt.Sprint(i)), 0, float64(i)), raws(metric("n", "y", fmt.Sprint(i)), 0, float64(i)))
	}
	s := storeOf(t, l...)
	m, g := sel("m"), grid(-2, 1, 1)
	for _, n := range []ir.Node{m, win(api.WSum, "m", 5, 0), sub(api.WSum, 5, 1, 0, m), mapped(api.FAbs, 0, m), op(api.Add, m, num(1)), op(api.Ge, m, num(0)), op(api.Deft, m, num(1)), op(api.Add, m, m), op(api.And, m, m),
		label("y", "1", m), grouped(api.ATop, api.Group{}, 9, m), grouped(api.ASum, by("x"), 0, m)} {
		wantRun(t, n, s, 3, g, "limit")
		for _, most := range []int{4, 5, 1 << 20} {
			if err := wantWalk(t, n, s, most, g); err != api.OK {
				t.Errorf("%s, most %d: %v", ir.Text(n), most, err)
			}
		}
		if err := wantWalk(t, n, s, 1, grid(-2, -1, 1)); err != api.OK {
			t.Errorf("%s, ahead of all samples: %v", ir.Text(n), err)
		}
	}
	// Only the node itself has more than its kids.
	for _, n := range []ir.Node{op(api.Or, m, sel("n")), op(api.Deft, m, sel("n"))} {
		wantRun(t, n, s, 7, g, "limit")
		if err := wantWalk(t, n, s, 8, g); err != api.OK {
			t.Errorf("%s: %v", ir.Text(n), err)
		}
	}
	// One point at each time, more of them together.
	turns := op(api.Eq, m, op(api.Mul, now(), num(1000)))
	wantRun(t, on(turns, sel("m"), mapped(api.FMin, 0, turns.Kids[1])), s, 4, grid(0, 3, 1), `ok; m{x="0"} 0:0; m{x="1"} 1:1; m{x="2"} 2:2; m{x="3"} 3:3`)
	wantRun(t, sub(api.WSum, 3, 1, 0, turns), s, 4, grid(0, 3, 1), `ok; {x="0"} 0:0 1:0 2:0; {x="1"} 1:1 2:1 3:1; {x="2"} 2:2 3:2; {x="3"} 3:3`)
	wantRun(t, toVector(num(1)), s, 1, g, "ok; {} -2:1 -1:1 0:1 1:1")
}

// TestP1401SubParts: a kid that is asked at more times than a grid may have, with and without gaps between, each
// value and each place of an error.
func TestP1401SubParts(t *testing.T) {
	s := few(t)
	for _, c := range []struct{ length, step, by, points int }{{7, 1, 6, 900}, {7, 1, 7, 900}, {7, 1, 8, 900}, {7, 2, 8, 1200}, {1, 1, 2, 4096}, {3, 3, 10, 4096}, {1000, 1, 1, 10}, {1000, 1, 3000, 10}, {1001, 2, 5000, 10}} {
		g := grid(-100, -100+(c.points-1)*c.by, c.by)
		for _, offset := range []int{0, 1, -50} {
			wantWalk(t, sub(api.WSum, c.length, c.step, offset, now()), s, 1, g)
			wantWalk(t, sub(api.WLast, c.length, c.step, offset, sel("a")), s, 2, g)
			wantWalk(t, sub(api.WCount, c.length, c.step, offset, win(api.WSum, "a", 9, 3)), s, 2, g)
		}
	}
	for _, c := range []struct{ length, by, points int }{{7, 6, 800}, {7, 7, 700}, {7, 8, 700}} {
		for _, at := range []int{-8, -7, -6, 0, 1, 4083, 4084, 4085, 4086, 4087, 4088, 4089, 4090, 4091, 4092, 4093, 4094, 4095, 4096, 4097, 4098, 4672, 4673, 4680, 4681, 4682, 4688, 4689} {
			at := float64(at)
			once := storeOf(t, raws(metric("d1", "k", "d"), at, 1, at+1, stale), raws(metric("d2", "k", "d"), at, 1, at+1, stale))
			g := grid(0, (c.points-1)*c.by, c.by)
			want := api.OK
			for u := g.Start; u <= g.End; u += g.Step {
				if float64(u-c.length) < at && at <= float64(u) {
					want = api.ErrDup
				}
			}
			if _, err := vec.Run(sub(api.WSum, c.length, 1, 0, dup()), once, roomy, g); err != want {
				t.Errorf("%v, at %v: %v instead of %v", c, at, err, want)
			}
		}
	}
}

// TestP1401SubPlaces: a kid's error in a later part comes at its own point, not ahead of another node's.
func TestP1401SubPlaces(t *testing.T) {
	for _, c := range []struct {
		many, dup float64
		want      string
	}{{4200, 4690, "many"}, {3, 4690, "many"}, {4690, 4200, "dup"}, {4690, 3, "dup"}, {4199, 4193, "dup"}, {4193, 4199, "many"}, {4199, 4199, "dup"}} {
		s := storeOf(t, raws(metric("d1", "k", "d"), c.dup, 1, c.dup+1, stale), raws(metric("d2", "k", "d"), c.dup, 1, c.dup+1, stale),
			raws(metric("e", "x", "1"), c.many, 1, c.many+1, stale), raws(metric("e", "x", "2"), c.many, 1, c.many+1, stale))
		for _, by := range []int{6, 7} {
			g := grid(0, 4800, by)
			wantRun(t, op(api.Or, sub(api.WSum, 7, 1, 0, dup()), sub(api.WSum, 7, 1, 0, many())), s, roomy, g, c.want)
		}
	}
}

// TestP1401SubErrors: of a kid's errors the earliest one comes where the first stretch has it; none of a kid that is
// not asked there.
func TestP1401SubErrors(t *testing.T) {
	s := few(t)
	kid := op(api.Or, many(), dup()) // ErrDup from 20, ErrMany from 30 up to 40
	count := func(length, step, offset int) ir.Node { return sub(api.WCount, length, step, offset, kid) }
	for _, c := range []struct {
		n    ir.Node
		g    api.Grid
		want string
	}{
		{count(5, 5, 0), grid(0, 19, 1), `ok; {k="d"} 10:1 11:1 12:1 13:1 14:1 15:1 16:1 17:1 18:1 19:1`}, {count(5, 5, 0), grid(0, 20, 20), "dup"}, {count(5, 5, 0), grid(0, 20, 1), "dup"}, {count(5, 5, 0), grid(29, 60, 1), "dup"},
		{count(5, 5, 0), grid(30, 60, 1), "many"}, {count(5, 5, 0), grid(39, 60, 1), "many"}, {count(5, 5, 0), grid(40, 60, 1), "ok"}, {count(5, 5, 0), grid(10, 50, 40), `ok; {k="d"} 10:1`},
		{count(5, 5, 0), grid(14, 90, 30), `ok; {k="d"} 14:1`}, {count(5, 5, 0), grid(14, 90, 20), "many"}, {count(5, 5, 0), grid(14, 90, 15), "dup"}, {count(15, 5, 0), grid(0, 90, 44), "many"}, {count(25, 5, 0), grid(0, 90, 44), "dup"},
		{count(5, 5, 10), grid(24, 90, 30), `ok; {k="d"} 24:1`}, {count(5, 5, 10), grid(0, 30, 1), "dup"}, {count(5, 5, -10), grid(0, 9, 1), `ok; {k="d"} 0:1 1:1 2:1 3:1 4:1 5:1 6:1 7:1 8:1 9:1`},
		{count(1, 8, 0), grid(0, 60, 1), "dup"}, {count(1, 7, 0), grid(0, 20, 1), `ok; {k="d"} 14:1`}, {count(1, 7, 0), grid(22, 60, 1), "dup"}, {count(1, 9, 0), grid(28, 60, 1), "many"}, {count(1, 100, 0), grid(1, 99, 1), "ok"},
		{op(api.Or, count(1, 9, 0), dup()), grid(18, 28, 9), "dup"}, {op(api.Or, count(1, 9, 0), many()), grid(9, 36, 27), "many"}, {op(api.Or, sub(api.WSum, 1, 1, 0, many()), dup()), grid(0, 60, 1), "dup"},
	} {
		wantRun(t, c.n, s, roomy, c.g, c.want)
	}
	wantRun(t, sub(api.WSum, 20, 10, 0, sel("a")), s, 1, grid(0, 5, 5), `ok; {x="1"} 0:1 5:1`)
	wantRun(t, sub(api.WSum, 20, 10, 0, sel("a")), s, 1, grid(0, 10, 5), "limit")
	wantRun(t, sub(api.WSum, 20, 10, 0, sub(api.WSum, 5, 5, 0, kid)), s, roomy, grid(0, 19, 1), `ok; {k="d"} 10:1 11:1 12:1 13:1 14:1 15:1 16:1 17:1 18:1 19:1`)
	wantRun(t, sub(api.WSum, 20, 10, 0, sub(api.WSum, 5, 5, 0, kid)), s, roomy, grid(0, 20, 1), "dup")
}

// TestP1401Far: times past those that a grid may have, at which there are samples too.
func TestP1401Far(t *testing.T) {
	s := storeOf(t, raws(list("x", "1"), -far, 1, 1-far, 4, 0, 2, far-1, 5, far, 3))
	last := func(offset int, k ir.Node) ir.Node { return sub(api.WLast, 2, 1, offset, k) }
	sum := func(offset int) ir.Node {
		return ir.Node{Kind: ir.Window, Fn: api.WSum, Range: 2, Offset: offset}
	}
	low, high := grid(-far, 1-far, 1), grid(far-1, far, 1)
	wantRun(t, last(far, late(-far, all())), s, 1, low, `ok; {x="1"} -1125899906842624:1 -1125899906842623:4`)
	wantRun(t, last(-far, late(far, all())), s, 1, high, `ok; {x="1"} 1125899906842623:5 1125899906842624:3`)
	wantRun(t, last(far, sum(-far)), s, 1, low, `ok; {x="1"} -1125899906842624:1 -1125899906842623:5`)
	wantRun(t, last(-far, sum(far)), s, 1, high, `ok; {x="1"} 1125899906842623:5 1125899906842624:8`)
	wantRun(t, last(far, last(far, last(-far, last(-far, sum(0))))), s, 1, low, `ok; {x="1"} -1125899906842624:1 -1125899906842623:5`)
	wantRun(t, last(far, last(far, last(far, now()))), s, 1, low, `ok; {} -1125899906842624:-4.503599627370496e+12 -1125899906842623:-4.503599627370495e+12`)
	wantRun(t, sub(api.WFirst, far, far, 0, now()), s, 1, grid(-far, far, far), `ok; {} -1125899906842624:-1.125899906842624e+12 0:0 1125899906842624:1.125899906842624e+12`)
	wantRun(t, sub(api.WCount, far, far/1000+1, 0, all()), s, 1, grid(-far, far, far/2), `ok; {x="1"} 0:1 562949953421312:1`)
	deep := sub(api.WLast, 1, 2, far, now())
	for range 18 {
		deep = sub(api.WLast, 1, 2, far, toScalar(deep))
	}
	wantRun(t, deep, s, 1, grid(-far, 4-far, 2), "ok; {} -1125899906842624:-2.251799813685248e+13 -1125899906842622:-2.251799813685248e+13 -1125899906842620:-2.2517998136852477e+13")
}
