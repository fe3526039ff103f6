package vec_test

import (
	"fmt"
	"math"
	"slices"
	"testing"

	"isobar/api"
	"isobar/fval"
	"isobar/ir"
	"isobar/labels"
	"isobar/store"
	"isobar/vec"
	"isobar/window"
)

func toldBatch(b vec.Batch, err api.Errno) string {
	s := err.Error()
	for _, l := range b.L {
		s += "; " + labels.Text(l)
	}
	for _, c := range b.C {
		s += "; " + toldColumn(c)
	}
	return s
}

func wantLoad(t *testing.T, n ir.Node, s *store.Store, g api.Grid, want string) {
	t.Helper()
	b, err := vec.Load(n, s, g)
	if got := toldBatch(b, err); got != want {
		t.Errorf("%s at %v:\n%s instead of\n%s", ir.Text(n), g, got, want)
	}
}

// TestP1402LoadErrors: the grid's error ahead of the kind's, that ahead of the plan's.
func TestP1402LoadErrors(t *testing.T) {
	s := few(t)
	pattern := ir.Node{Kind: ir.Select, M: []api.Matcher{like("x", "(")}}
	many := ir.Node{Kind: ir.Select, M: make([]api.Matcher, 33)}
	for i := range many.M {
		many.M[i] = equal("x", "1")
	}
	wrong := []ir.Node{num(1), now(), empty(), sub(api.WSum, 5, 5, 0, sel("a")), mapped(api.FAbs, 0, pattern), op(api.Add, pattern, pattern), {}, {Kind: -4}, {Kind: 14, M: pattern.M}, grouped(api.ASum, api.Group{}, 0, pattern)}
	for _, n := range append(slices.Clone(wrong), pattern, sel("a"), win(0, "a", 5, 0)) {
		for _, g := range []api.Grid{{}, grid(1, 0, 1), grid(0, 5, -1), grid(-far-1, 0, far), grid(0, far+1, far), grid(math.MinInt, math.MaxInt, 1)} {
			wantLoad(t, n, s, g, "arg")
		}
		wantLoad(t, n, s, grid(0, 4096, 1), "limit")
	}
	for _, g := range []api.Grid{grid(0, 0, 1), grid(0, 4095, 1)} {
		for _, n := range append(wrong, on(sel("a"), num(1)), on(pattern, num(1)), late(far+1, sel("a")), late(-far-1, sel("a")), win(0, "a", 5, 0), win(15, "a", 5, 0), win(1, "a", 0, 0), win(1, "a", far+1, 0), win(1, "a", 1, far+1), many,
			ir.Node{Kind: ir.Select, M: []api.Matcher{{Kind: 5, Name: "x"}}}, ir.Node{Kind: ir.Window, Fn: 1, Range: 1, M: []api.Matcher{equal("0", "1")}}) {
			wantLoad(t, n, s, g, "arg")
		}
		wantLoad(t, pattern, s, g, "form")
		wantLoad(t, ir.Node{Kind: ir.Window, Fn: 99, Range: -1, M: pattern.M}, s, g, "form")
		wantLoad(t, on(ir.Node{Kind: ir.Select}, make([]ir.Node, 400)...), s, g, "limit")
	}
}

// TestP1402Load: each series that matches, those too that have no point, with their labels as they are.
func TestP1402Load(t *testing.T) {
	s := few(t)
	const none, both = "[false false false]", "[true true true]"
	wantLoad(t, sel("a"), s, grid(0, 40, 20), `ok; a{x="1"}; a{x="2"}; 1 4 0 [true true false]; 0 -3 8 [false true true]`)
	wantLoad(t, late(20, sel("a")), s, grid(20, 60, 20), `ok; a{x="1"}; a{x="2"}; 1 4 0 [true true false]; 0 -3 8 [false true true]`)
	wantLoad(t, late(-5, sel("a")), s, grid(5, 15, 5), `ok; a{x="1"}; a{x="2"}; 2 2 4 `+both+`; -3 -3 -3 `+both)
	wantLoad(t, sel("a"), s, grid(-30, -10, 10), `ok; a{x="1"}; a{x="2"}; 0 0 0 `+none+`; 0 0 0 `+none)
	wantLoad(t, sel("b"), s, grid(299998, 300000, 1), `ok; b{x="1"}; 5 5 0 [true true false]`)
	wantLoad(t, sel("none"), s, grid(0, 2, 1), "ok")
	wantLoad(t, ir.Node{Kind: ir.Select, M: []api.Matcher{equal("k", "d")}}, s, grid(15, 35, 10), `ok; d1{k="d"}; d2{k="d"}; 1 1 0 [true true false]; 0 2 2 [false true true]`)
	wantLoad(t, win(api.WSum, "a", 15, 0), s, grid(10, 30, 10), `ok; a{x="1"}; a{x="2"}; 3 6 4 `+both+`; -3 -3 0 [true true false]`)
	wantLoad(t, win(api.WDelta, "a", 20, 5), s, grid(15, 45, 15), `ok; a{x="1"}; a{x="2"}; 1 2 0 [true true false]; 0 0 0 `+none)
	wantLoad(t, win(api.WLast, "a", 100, -20), s, grid(-20, 20, 20), `ok; a{x="1"}; a{x="2"}; 1 4 4 `+both+`; 0 -3 8 [false true true]`)
	wantLoad(t, win(api.WCount, "none", 15, 0), s, grid(0, 2, 1), "ok")
	wantLoad(t, ir.Node{Kind: ir.Window, Fn: api.WCount, Range: 15, M: []api.Matcher{equal("k", "d")}}, s, grid(20, 20, 1), `ok; d1{k="d"}; d2{k="d"}; 1 [true]; 1 [true]`)
	kinds := storeOf(t, raws(nil, 0, minus, 1, odd, 2, stale, 3, inf))
	wantLoad(t, all(), kinds, grid(0, 3, 1), "ok; {}; -0 NaN 0 +Inf [true true false true]")
	wantLoad(t, ir.Node{Kind: ir.Window, Fn: api.WCount, Range: 1}, kinds, grid(0, 3, 1), "ok; {}; 1 1 0 1 [true true false true]")
	ends := storeOf(t, raws(nil, -far, 1, far, 3))
	wantLoad(t, late(far, all()), ends, grid(-far, far, far), "ok; {}; 0 1 0 [false true false]")
	wantLoad(t, late(-far, all()), ends, grid(-far, far, far), "ok; {}; 0 3 0 [false true false]")
	wantLoad(t, all(), &store.Store{}, grid(0, 0, 1), "ok")
}

// TestP1402LoadOfAll: made leaves of made stores, value by value as the store and window have them.
func TestP1402LoadOfAll(t *testing.T) {
	loaded := 0
	for seed := range 3000 {
		m := makerOf(seed)
		s, g := storeOf(t, m.raws()), m.grid()
		n := ir.Node{Kind: pick(m, ir.Select, ir.Window), Fn: 1 + m.of(14), Range: 1 + m.of(20), Offset: pick(m, m.of(11)-5, 299995, -299995), M: m.matchers()}
		held := wholeStore(s)
		b, err := vec.Load(n, s, g)
		if err != api.OK || len(b.L) != len(b.C) {
			t.Fatalf("%v, %d labels, %d columns", err, len(b.L), len(b.C))
		}
		at := 0
		for i := range s.Len() {
			x, _ := s.Series(i)
			if at == len(b.L) || !slices.Equal(b.L[at], x.L) {
				continue
			}
			want, _ := window.Slide(n.Fn, s.Range(i, math.MinInt, math.MaxInt), g, n.Range, n.Offset)
			for k := range want.V {
				if n.Kind == ir.Select {
					want.V[k], want.Has[k] = s.Last(i, g.Start+k*g.Step-n.Offset, 300000)
				}
			}
			if toldColumn(b.C[at]) != toldColumn(want) {
				t.Errorf("%d: %s at %v: %s instead of %s", seed, ir.Text(n), g, toldColumn(b.C[at]), toldColumn(want))
			}
			at++
			loaded++
		}
		if at != len(b.L) {
			t.Errorf("%d: %s: %s is not in the store's order", seed, ir.Text(n), toldBatch(b, err))
		}
		wantBatchApart(t, b)
		if wholeStore(s) != held {
			t.Errorf("%d: the store has changed", seed)
		}
	}
	if loaded < 3000 {
		t.Errorf("%d columns were loaded", loaded)
	}
}

// wantBatchApart asks that no list of a batch shares memory with another one of it, their room too.
func wantBatchApart(t *testing.T, b vec.Batch) {
	t.Helper()
	for i := range b.C {
		scrawlLabels(b.L[i])
		v, has := b.C[i].V[:cap(b.C[i].V)], b.C[i].Has[:cap(b.C[i].Has)]
		for k := range v {
			v[k] = 99
		}
		for k := range has {
			has[k] = true
		}
		b.L[i], b.C[i] = nil, window.Column{}
		for k, l := range b.L {
			if labels.Get(l, "scrawl") != "" || slices.Contains(b.C[k].V, 99) {
				t.Error("lists of one batch share memory")
			}
		}
	}
}

// halves answers a column of l in which every other value is there, from the first one on or the second.
func halves(l []float64, odds bool) window.Column {
	c := window.Column{V: slices.Clone(l), Has: make([]bool, len(l))}
	for i := range l {
		c.Has[i] = (i%2 == 1) == odds
	}
	return c
}

// full answers a column of which each value is there.
func full(l ...float64) window.Column {
	return window.Column{V: l, Has: slices.Repeat([]bool{true}, len(l))}
}

// TestP1402Fn: of each value that is there fval.Fn, of others 0.
func TestP1402Fn(t *testing.T) {
	columns := []window.Column{full(values...), halves(values, true), halves(values, false), {}, {V: []float64{}, Has: []bool{}}, {V: values, Has: make([]bool, len(values))}}
	for fn := api.FAbs; fn <= api.FMax; fn++ {
		for _, arg := range values {
			for _, c := range columns {
				was := toldColumn(c)
				got, ok := vec.Fn(fn, arg, c)
				want := window.Column{V: make([]float64, len(c.V)), Has: slices.Clone(c.Has)}
				for i, has := range c.Has {
					if has {
						want.V[i], _ = fval.Fn(fn, c.V[i], arg)
					}
				}
				if !ok || toldColumn(got) != toldColumn(want) {
					t.Errorf("Fn(%d, %v, %s): %s, %v instead of %s", fn, arg, was, toldColumn(got), ok, toldColumn(want))
				}
				got = window.Column{V: got.V[:cap(got.V)], Has: got.Has[:cap(got.Has)]}
				for i := range got.V {
					got.V[i] = 99
				}
				for i := range got.Has {
					got.Has[i] = !got.Has[i]
				}
				if toldColumn(c) != was {
					t.Errorf("Fn(%d, %v, %s) shares its column", fn, arg, was)
				}
			}
		}
	}
	x, ok := vec.Fn(api.FNeg, 7, window.Column{V: []float64{1, -2, odd, 0}, Has: []bool{false, true, true, true}})
	if !ok || toldColumn(x) != "0 2 NaN -0 [false true true true]" {
		t.Errorf("%s, %v", toldColumn(x), ok)
	}
}

// TestP1402FnNone: functions that are none, of columns without values too, and columns that are none.
func TestP1402FnNone(t *testing.T) {
	for _, fn := range []int{math.MinInt, -1, 0, 6, 7, 14, math.MaxInt} {
		for _, c := range []window.Column{{}, full(1), full(values...), {V: []float64{1}}, {V: []float64{1}, Has: []bool{false}}} {
			x, ok := vec.Fn(fn, 0, c)
			wantNone(t, fmt.Sprintf("Fn(%d, %v)", fn, c), x, ok)
		}
	}
	for fn := api.FAbs; fn <= api.FMax; fn++ {
		for _, c := range []window.Column{{V: []float64{1}}, {Has: []bool{true}}, {V: []float64{1, 2}, Has: []bool{true}}, {V: []float64{1}, Has: []bool{true, false}}} {
			x, ok := vec.Fn(fn, 0, c)
			wantNone(t, fmt.Sprintf("Fn(%d, %v)", fn, c), x, ok)
		}
	}
}

func wantNone(t *testing.T, call string, c window.Column, ok bool) {
	t.Helper()
	if ok || len(c.V) > 0 || len(c.Has) > 0 {
		t.Errorf("%s: %s, %v", call, toldColumn(c), ok)
	}
}

// TestP1402Op: of each two values that are both there fval.Op, else 0 and not there.
func TestP1402Op(t *testing.T) {
	for op := api.Add; op <= api.Le; op++ {
		for by := range values {
			turned := append(slices.Clone(values[by:]), values[:by]...)
			for _, a := range []window.Column{full(values...), halves(values, true), halves(values, false)} {
				for _, b := range []window.Column{full(turned...), halves(turned, true), {V: turned, Has: make([]bool, len(turned))}} {
					wasA, wasB := toldColumn(a), toldColumn(b)
					got, ok := vec.Op(op, a, b)
					want := window.Column{V: make([]float64, len(a.V)), Has: make([]bool, len(a.V))}
					for i := range a.V {
						if a.Has[i] && b.Has[i] {
							want.Has[i] = true
							want.V[i], _ = fval.Op(op, a.V[i], b.V[i])
						}
					}
					if !ok || toldColumn(got) != toldColumn(want) {
						t.Errorf("Op(%d, %s, %s): %s, %v instead of %s", op, wasA, wasB, toldColumn(got), ok, toldColumn(want))
					}
					got = window.Column{V: got.V[:cap(got.V)], Has: got.Has[:cap(got.Has)]}
					for i := range got.V {
						got.V[i], got.Has[i] = 99, !got.Has[i]
					}
					if toldColumn(a) != wasA || toldColumn(b) != wasB {
						t.Errorf("Op(%d, %s, %s) shares its columns", op, wasA, wasB)
					}
				}
			}
		}
		if x, ok := vec.Op(op, window.Column{}, window.Column{V: []float64{}}); !ok || len(x.V)+len(x.Has) > 0 {
			t.Errorf("Op(%d) of nothing: %v, %v", op, x, ok)
		}
	}
	x, ok := vec.Op(api.Sub, full(1, 2, 3), window.Column{V: []float64{5, 6, 7}, Has: []bool{true, false, true}})
	if !ok || toldColumn(x) != "-4 0 -4 [true false true]" {
		t.Errorf("%s, %v", toldColumn(x), ok)
	}
	x, ok = vec.Op(api.Gt, full(1, 2, nan), full(0, 2, 1))
	if !ok || toldColumn(x) != "1 0 0 [true true true]" {
		t.Errorf("%s, %v", toldColumn(x), ok)
	}
}

// TestP1402OpNone: operators that are none here, and columns that are none or not of one length.
func TestP1402OpNone(t *testing.T) {
	for _, op := range []int{math.MinInt, -1, 0, api.And, api.Or, api.Less, api.Deft, 15, math.MaxInt} {
		for _, c := range []window.Column{{}, full(1), full(values...)} {
			x, ok := vec.Op(op, c, c)
			wantNone(t, fmt.Sprintf("Op(%d, %v)", op, c), x, ok)
		}
	}
	for op := api.Add; op <= api.Le; op++ {
		for _, c := range [][2]window.Column{
			{full(1), {}}, {full(1), full(1, 2)}, {full(1, 2), {V: []float64{1, 2}}}, {full(1, 2), {Has: []bool{true, true}}}, {full(1), {V: []float64{1}, Has: []bool{true, true}}}, {full(1, 2), {V: []float64{1}, Has: []bool{true, true}}},
			{full(1), {V: []float64{1, 2}, Has: []bool{true}}}, {{V: []float64{1}, Has: []bool{false, false}}, {V: []float64{1}, Has: []bool{false, false}}}, {{V: []float64{1, 2}, Has: []bool{true}}, {V: []float64{1, 2}, Has: []bool{true}}}, {{V: []float64{1}}, {V: []float64{1}}}, {{Has: []bool{true}}, {Has: []bool{true}}},
		} {
			x, ok := vec.Op(op, c[0], c[1])
			wantNone(t, fmt.Sprintf("Op(%d, %v)", op, c), x, ok)
			x, ok = vec.Op(op, c[1], c[0])
			wantNone(t, fmt.Sprintf("Op(%d, %v) turned", op, c), x, ok)
		}
	}
}

// TestP1402Series: each of the labels that has a point, in the batch's order, as it is.
func TestP1402Series(t *testing.T) {
	g := grid(-10, 25, 15)
	column := func(v ...float64) window.Column { return full(v...) }
	for want, b := range map[string]vec.Batch{
		"ok": {}, `ok; {} -10:1 5:2 20:3`: {L: [][]api.Label{nil}, C: []window.Column{column(1, 2, 3)}},
		`ok; {b="1"} -10:-0 5:NaN 20:+Inf; {a="1"} 5:0`: {L: [][]api.Label{list("b", "1"), list("c", "1"), list("a", "1")}, C: []window.Column{column(minus, nan, inf), {V: []float64{7, 8, 9}, Has: make([]bool, 3)}, {V: []float64{7, 0, 9}, Has: []bool{false, true, false}}}},
		`ok; m{a="1"} 20:3; m{a="1"} -10:1`:             {L: [][]api.Label{metric("m", "a", "1"), metric("m", "a", "1")}, C: []window.Column{{V: []float64{1, 2, 3}, Has: []bool{false, false, true}}, {V: []float64{1, 2, 3}, Has: []bool{true, false, false}}}},
	} {
		if got := told(vec.Series(b, g), api.OK); got != want {
			t.Errorf("%s instead of %s", got, want)
		}
	}
	if l := vec.Series(vec.Batch{L: [][]api.Label{nil}, C: []window.Column{{}}}, api.Grid{}); len(l) > 0 {
		t.Errorf("no points: %v", l)
	}
	row := list("a", "1")
	for _, l := range [][][]api.Label{{row, row}, {row[:1:1], row}} {
		b := vec.Batch{L: l, C: []window.Column{column(1, 2, 3), column(4, 5, 6)}}
		was := toldBatch(b, api.OK)
		got := vec.Series(b, g)
		wantApart(t, slices.Clone(got))
		scrawl(got)
		if toldBatch(b, api.OK) != was {
			t.Error("Series shares its batch's memory")
		}
	}
}

// TestP1402SeriesOfLoad: what was loaded and told as series is what Run answers of a Select.
func TestP1402SeriesOfLoad(t *testing.T) {
	for seed := range 500 {
		m := makerOf(seed)
		s, g := storeOf(t, m.raws()), m.grid()
		n := ir.Node{Kind: ir.Select, M: m.matchers(), Offset: m.of(11) - 5}
		b, err := vec.Load(n, s, g)
		l, lErr := vec.Run(n, s, roomy, g)
		if told(vec.Series(b, g), err) != told(l, lErr) {
			t.Errorf("%d: %s instead of %s", seed, told(vec.Series(b, g), err), told(l, lErr))
		}
	}
}
