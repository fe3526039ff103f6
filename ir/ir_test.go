package ir_test

import (
	"fmt"
	"math"
	"reflect"
	"slices"
	"strings"
	"testing"

	"isobar/api"
	"isobar/ir"
)

var (
	inf   = math.Inf(1)
	minus = math.Copysign(0, -1)
	nan   = math.Float64frombits(0x7FF8000000000001)
	stale = math.Float64frombits(0x7FF0000000000002)
	odd   = math.Float64frombits(0xFFF8000000000007)
)

// fields are all of a node's but Kind and Kids, in their order.
var fields = []string{"Num", "Fn", "M", "Range", "Step", "Offset", "G", "X", "Flag", "Name", "Value"}

// had are the fields that a node of a kind has, and how many kids: the promise's words. Of a kind that is none
// there is nothing.
func had(kind, fn int) ([]string, int) {
	switch kind {
	case ir.Const:
		return []string{"Num"}, 0
	case ir.Select:
		return []string{"M", "Offset"}, 0
	case ir.Window:
		return []string{"Fn", "M", "Range", "Offset"}, 0
	case ir.Sub:
		return []string{"Fn", "Range", "Step", "Offset"}, 1
	case ir.Map:
		if fn == 4 || fn == 5 {
			return []string{"Num", "Fn"}, 1
		}
		return []string{"Fn"}, 1
	case ir.Binary:
		return []string{"Fn", "X", "Flag"}, 2
	case ir.Agg:
		if fn == 6 || fn == 7 {
			return []string{"Num", "Fn", "G"}, 1
		}
		return []string{"Fn", "G"}, 1
	case ir.ToScalar, ir.ToVector:
		return nil, 1
	case ir.Label:
		return []string{"Name", "Value"}, 1
	case ir.Absent:
		return []string{"M"}, 1
	}
	return nil, 0
}

func num(v float64) ir.Node {
	return ir.Node{Kind: ir.Const, Num: v}
}

func sel(name string) ir.Node {
	return ir.Node{Kind: ir.Select, M: []api.Matcher{equal(api.Name, name)}}
}

func equal(name, value string) api.Matcher {
	return api.Matcher{Kind: api.Equal, Name: name, Value: value}
}

func like(pattern string) api.Matcher {
	return api.Matcher{Kind: api.Like, Name: "a", Value: pattern}
}

func on(n ir.Node, kids ...ir.Node) ir.Node {
	n.Kids = kids
	return n
}

func mapped(k ir.Node) ir.Node {
	return on(ir.Node{Kind: ir.Map, Fn: api.FAbs}, k)
}

func sub(length, step int, k ir.Node) ir.Node {
	return on(ir.Node{Kind: ir.Sub, Fn: api.WSum, Range: length, Step: step}, k)
}

func plus(a, b ir.Node) ir.Node {
	return on(ir.Node{Kind: ir.Binary, Fn: api.Add}, a, b)
}

// full answers a node all of whose fields are set, with one kid more than any kind has.
func full(kind, fn int) ir.Node {
	return ir.Node{
		Kind: kind, Num: 2.5, Fn: fn, M: []api.Matcher{equal("a", "1"), like("b.*")},
		Range: 5, Step: 6, Offset: -7,
		G:    api.Group{How: api.By, Names: []string{"c", "b"}},
		X:    api.Match{G: api.Group{How: api.Without, Names: []string{"d", "e"}}, Card: api.ManyOne, Include: []string{"g", "f"}},
		Flag: true, Name: "n", Value: "v",
		Kids: []ir.Node{num(1), sel("x"), num(3)},
	}
}

// picked answers a node that has of n's fields, and kids, just those that its kind has.
func picked(n ir.Node) ir.Node {
	out := ir.Node{Kind: n.Kind}
	names, kids := had(n.Kind, n.Fn)
	for _, name := range names {
		reflect.ValueOf(&out).Elem().FieldByName(name).Set(reflect.ValueOf(n).FieldByName(name))
	}
	for _, k := range n.Kids[:min(kids, len(n.Kids))] {
		out.Kids = append(out.Kids, picked(k))
	}
	return out
}

// show tells all fields of n, numbers by their bits, no list and an empty one alike.
func show(n ir.Node) string {
	var b strings.Builder
	shown(&b, n)
	return b.String()
}

func shown(b *strings.Builder, n ir.Node) {
	fmt.Fprintf(b, "{%d %X %d %v %d %d %d %d%q %d%q%d%q %v %q %q", n.Kind, math.Float64bits(n.Num), n.Fn, n.M, n.Range, n.Step, n.Offset,
		n.G.How, n.G.Names, n.X.G.How, n.X.G.Names, n.X.Card, n.X.Include, n.Flag, n.Name, n.Value)
	for _, k := range n.Kids {
		b.WriteString(" ")
		shown(b, k)
	}
	b.WriteString("}")
}

func wantNode(t *testing.T, what string, got, want ir.Node) {
	t.Helper()
	if show(got) != show(want) {
		t.Errorf("%s: %s instead of %s", what, show(got), show(want))
	}
}

func wantSame(t *testing.T, a, b ir.Node, want bool) {
	t.Helper()
	if ir.Same(a, b) != want || ir.Same(b, a) != want {
		t.Errorf("Same of %s and %s is not %v", show(a), show(b), want)
	}
}

// spoil overwrites all that the lists of n hold, their spare room too.
func spoil(n ir.Node) {
	for _, k := range n.Kids {
		spoil(k)
	}
	for _, l := range [][]string{n.G.Names, n.X.G.Names, n.X.Include} {
		l = l[:cap(l)]
		for i := range l {
			l[i] = "spoilt"
		}
	}
	m := n.M[:cap(n.M)]
	for i := range m {
		m[i] = api.Matcher{Kind: 9, Name: "spoilt"}
	}
	kids := n.Kids[:cap(n.Kids)]
	for i := range kids {
		kids[i] = ir.Node{Kind: 99}
	}
}

// roomy answers a copy of n all of whose lists have room behind them.
func roomy(n ir.Node) ir.Node {
	n.M = append(make([]api.Matcher, 0, len(n.M)+2), n.M...)
	n.G.Names = append(make([]string, 0, len(n.G.Names)+2), n.G.Names...)
	n.X.G.Names = append(make([]string, 0, len(n.X.G.Names)+2), n.X.G.Names...)
	n.X.Include = append(make([]string, 0, len(n.X.Include)+2), n.X.Include...)
	kids := make([]ir.Node, 0, len(n.Kids)+2)
	for _, k := range n.Kids {
		kids = append(kids, roomy(k))
	}
	n.Kids = kids
	return n
}

// every answers a plan with all kinds of lists, at several depths, raw: kinds that do not have what they have, too.
func every() ir.Node {
	return on(full(ir.Binary, api.Eq),
		on(full(ir.Agg, api.ATop), full(ir.Window, api.WSum)),
		on(full(ir.Absent, 0), on(full(ir.Label, 0), full(ir.Select, 0))))
}

// scatter answers n numbers from 0 to below bound, the same ones in each run of the same seed.
func scatter(seed uint64, n, bound int) []int {
	l, x := make([]int, n), seed
	for i := range l {
		x = x*6364136223846793005 + 1442695040888963407
		l[i] = int((x ^ x>>29) % uint64(bound))
	}
	return l
}

// maker makes plans of numbers that are given, as long as there are some.
type maker struct {
	l []int
}

// of answers a number below n.
func (m *maker) of(n int) int {
	if len(m.l) == 0 {
		return 0
	}
	x := m.l[0]
	m.l = m.l[1:]
	return x % n
}

func pick[T any](m *maker, l ...T) T {
	return l[m.of(len(l))]
}

func (m *maker) group() api.Group {
	return pick(m, api.Group{}, api.Group{How: api.By}, api.Group{How: api.By, Names: []string{"a"}}, api.Group{How: api.By, Names: []string{"a", "b"}},
		api.Group{How: api.By, Names: []string{"b", "a"}}, api.Group{How: api.Without, Names: []string{"a"}}, api.Group{How: api.Without},
		api.Group{}, api.Group{}, api.Group{How: 3}, api.Group{Names: []string{"a"}})
}

func (m *maker) match() api.Match {
	return pick(m, api.Match{}, api.Match{}, api.Match{G: m.group()}, api.Match{G: m.group(), Card: 1}, api.Match{G: m.group(), Card: 2, Include: []string{"c"}},
		api.Match{Card: 1, Include: []string{"c", "d"}}, api.Match{Card: 1, Include: []string{"d", "c"}}, api.Match{Card: 3}, api.Match{Include: []string{"c"}})
}

func (m *maker) matchers() []api.Matcher {
	return pick(m, nil, nil, []api.Matcher{equal("a", "1")}, []api.Matcher{equal("a", "1"), like("x|y")}, []api.Matcher{like("x|y"), equal("a", "1")},
		[]api.Matcher{{Kind: api.NotLike, Name: "a", Value: "1"}}, []api.Matcher{like("(")}, []api.Matcher{equal("1", "a")})
}

// node answers a plan, right or not, of fields that it has alone or of some more. As many as wild say in ten
// are likely to be wrong somewhere.
func (m *maker) node(deep, wild int) ir.Node {
	kind := 1 + m.of(13)
	if deep < 1 {
		kind = pick(m, ir.Const, ir.Time, ir.Select, ir.Window, ir.Empty)
	}
	if m.of(40) < wild {
		kind = pick(m, 0, 14, -1, ir.Sub, ir.Sub, ir.Sub)
	}
	fn := 1 + m.of(8)
	if kind == ir.Map {
		fn = 1 + m.of(5)
	}
	if kind == ir.Binary || kind == ir.Window {
		fn = 1 + m.of(14)
	}
	n := ir.Node{Kind: kind, Fn: fn, Num: pick(m, 0, 1, minus, nan, odd, inf), Range: 1 + m.of(5), Step: 1 + m.of(3), Offset: m.of(3) - 1,
		Name: pick(m, "a", "b", api.Name), Value: pick(m, "", "1", "\x00\""), Flag: m.of(2) > 0}
	if m.of(3) < 1 {
		n.M = m.matchers()
		n.G, n.X = m.group(), m.match()
	}
	if m.of(10) < wild {
		n.Fn, n.Range, n.Step = m.of(17)-1, pick(m, 0, 1, 63, 64, 1000, 1001, 5000, 5000, -1), pick(m, 1, 1, 2, 0)
		n.Name, n.Offset = pick(m, "a", "", "1"), pick(m, 0, api.MaxTime+1, -api.MaxTime)
	}
	_, kids := had(kind, fn)
	if m.of(20) < wild {
		kids = m.of(4)
	}
	for range kids {
		n.Kids = append(n.Kids, m.node(deep-1, wild))
	}
	return n
}

// plans answers many plans made of scattered numbers.
func plans(seeds, wild int) []ir.Node {
	var out []ir.Node
	for seed := range seeds {
		m := maker{scatter(uint64(seed+1000*wild), 600, 1<<30)}
		out = append(out, m.node(seed%5, wild))
	}
	return out
}

// TestP1201CleanFields: of each kind, and each Fn, what it has stays and all else is zero.
func TestP1201CleanFields(t *testing.T) {
	for kind := -1; kind <= 16; kind++ {
		for fn := -1; fn <= 16; fn++ {
			n := full(kind, fn)
			wantNode(t, fmt.Sprintf("Clean of %d, %d", kind, fn), ir.Clean(n), picked(n))
			n.Kids = n.Kids[:1]
			wantNode(t, fmt.Sprintf("Clean of %d, %d, of one kid", kind, fn), ir.Clean(n), picked(n))
		}
	}
	for _, kind := range []int{math.MinInt, math.MaxInt, 99, 1 << 32} {
		wantNode(t, "of a kind that is none", ir.Clean(full(kind, 1)), ir.Node{Kind: kind})
	}
	wantNode(t, "Clean of nothing", ir.Clean(ir.Node{}), ir.Node{})
}

// TestP1201CleanKids: kids at all depths are clean too; those that are too many are left out.
func TestP1201CleanKids(t *testing.T) {
	wantNode(t, "Clean of every", ir.Clean(every()), picked(every()))
	n := on(full(ir.Binary, api.Add), full(ir.Time, 0), mapped(full(ir.Select, 3)))
	n.X, n.Flag = api.Match{}, false
	wantNode(t, "Clean", ir.Clean(n), plus(ir.Node{Kind: ir.Time}, mapped(picked(full(ir.Select, 3)))))
	wantNode(t, "two kids", ir.Clean(on(ir.Node{Kind: ir.ToScalar}, sel("a"), sel("b"))), on(ir.Node{Kind: ir.ToScalar}, sel("a")))
	wantNode(t, "three kids", ir.Clean(on(plus(num(1), num(2)), num(3), num(4), num(5))), plus(num(3), num(4)))
	wantNode(t, "no kids", ir.Clean(ir.Node{Kind: ir.Binary, Fn: 1}), ir.Node{Kind: ir.Binary, Fn: 1})
	for _, p := range plans(400, 3) {
		c := ir.Clean(p)
		wantNode(t, "Clean twice", ir.Clean(c), c)
		wantSame(t, p, c, true)
	}
}

// TestP1201Num: Canon, where the kind has it.
func TestP1201Num(t *testing.T) {
	for _, v := range []float64{nan, stale, odd} {
		for _, n := range []ir.Node{num(v), {Kind: ir.Map, Fn: api.FMin, Num: v}, {Kind: ir.Map, Fn: api.FMax, Num: v}, {Kind: ir.Agg, Fn: api.ATop, Num: v}, {Kind: ir.Agg, Fn: api.ABottom, Num: v}} {
			if b := math.Float64bits(ir.Clean(n).Num); b != math.Float64bits(nan) {
				t.Errorf("Clean of %s: %X", show(n), b)
			}
		}
		for _, w := range []float64{nan, stale, odd} {
			wantSame(t, num(v), num(w), true)
		}
		wantSame(t, num(v), num(0), false)
		for _, n := range []ir.Node{{Kind: ir.Time, Num: v}, {Kind: ir.Map, Fn: api.FNeg, Num: v}, {Kind: ir.Agg, Fn: api.ASum, Num: v}} {
			if b := math.Float64bits(ir.Clean(n).Num); b != 0 {
				t.Errorf("Clean of %s: %X", show(n), b)
			}
		}
	}
	for _, v := range []float64{0, minus, 1, -1, 0.1, 5e-324, math.MaxFloat64, inf, -inf} {
		if b := math.Float64bits(ir.Clean(num(v)).Num); b != math.Float64bits(v) {
			t.Errorf("Clean of %v: %X", v, b)
		}
		wantSame(t, num(v), num(v), true)
		wantSame(t, num(v), num(nan), false)
		wantSame(t, num(v), num(2), false)
	}
	wantSame(t, num(0), num(minus), false)
	wantSame(t, num(inf), num(-inf), false)
	wantSame(t, num(1), num(math.Nextafter(1, 2)), false)
}

// changes are other values of a field, each to be told from full's.
func changes(field string) []func(*ir.Node) {
	names := func(at func(*ir.Node) *[]string) []func(*ir.Node) {
		return []func(*ir.Node){
			func(n *ir.Node) { l := *at(n); *at(n) = []string{l[1], l[0]} },
			func(n *ir.Node) { *at(n) = (*at(n))[:1] },
			func(n *ir.Node) { *at(n) = append(slices.Clone(*at(n)), "z") },
			func(n *ir.Node) { *at(n) = []string{(*at(n))[0], "z"} },
			func(n *ir.Node) { *at(n) = nil },
		}
	}
	switch field {
	case "Num":
		return []func(*ir.Node){func(n *ir.Node) { n.Num = 0 }, func(n *ir.Node) { n.Num = -n.Num }, func(n *ir.Node) { n.Num = nan }}
	case "M":
		return []func(*ir.Node){
			func(n *ir.Node) { n.M = []api.Matcher{n.M[1], n.M[0]} },
			func(n *ir.Node) { n.M = n.M[:1] },
			func(n *ir.Node) { n.M = nil },
			func(n *ir.Node) { n.M = []api.Matcher{n.M[0], n.M[1], n.M[1]} },
			func(n *ir.Node) { n.M = []api.Matcher{n.M[0], {Kind: api.NotLike, Name: "a", Value: "b.*"}} },
			func(n *ir.Node) { n.M = []api.Matcher{n.M[0], {Kind: api.Like, Name: "b", Value: "b.*"}} },
			func(n *ir.Node) { n.M = []api.Matcher{n.M[0], like("b")} },
		}
	case "Range":
		return []func(*ir.Node){func(n *ir.Node) { n.Range++ }, func(n *ir.Node) { n.Range = 0 }}
	case "Step":
		return []func(*ir.Node){func(n *ir.Node) { n.Step++ }, func(n *ir.Node) { n.Step = 0 }}
	case "Offset":
		return []func(*ir.Node){func(n *ir.Node) { n.Offset = 7 }, func(n *ir.Node) { n.Offset = 0 }}
	case "G":
		return append(names(func(n *ir.Node) *[]string { return &n.G.Names }), func(n *ir.Node) { n.G.How = api.Without })
	case "X":
		l := append(names(func(n *ir.Node) *[]string { return &n.X.G.Names }), names(func(n *ir.Node) *[]string { return &n.X.Include })...)
		return append(l, func(n *ir.Node) { n.X.G.How = api.By }, func(n *ir.Node) { n.X.Card = api.OneMany }, func(n *ir.Node) { n.X = api.Match{} })
	case "Flag":
		return []func(*ir.Node){func(n *ir.Node) { n.Flag = false }}
	case "Name":
		return []func(*ir.Node){func(n *ir.Node) { n.Name = "" }, func(n *ir.Node) { n.Name = "N" }}
	case "Value":
		return []func(*ir.Node){func(n *ir.Node) { n.Value = "" }, func(n *ir.Node) { n.Value = "v " }}
	}
	return nil
}

// TestP1201SameFields: of each kind and Fn two plans that differ in one field are the Same just if the kind does
// not have that one, at the root and as a kid.
func TestP1201SameFields(t *testing.T) {
	for kind := -1; kind <= 14; kind++ {
		for fn := range 10 {
			a := full(kind, fn)
			wantSame(t, a, full(kind, fn), true)
			wantSame(t, a, full(kind+1, fn), false)
			has, kids := had(kind, fn)
			wantSame(t, a, full(kind, fn+20), !slices.Contains(has, "Fn"))
			for _, field := range fields {
				for _, change := range changes(field) {
					b := full(kind, fn)
					change(&b)
					wantSame(t, a, b, !slices.Contains(has, field))
					wantSame(t, mapped(a), mapped(b), !slices.Contains(has, field))
				}
			}
			for i := range 3 {
				b := full(kind, fn)
				b.Kids[i] = num(9)
				wantSame(t, a, b, i >= kids)
				wantSame(t, a, on(b, full(kind, fn).Kids[:i]...), i >= kids)
			}
		}
	}
}

func TestP1201SameKids(t *testing.T) {
	wantSame(t, every(), every(), true)
	wantSame(t, every(), roomy(every()), true)
	wantSame(t, plus(num(1), num(2)), plus(num(2), num(1)), false)
	wantSame(t, plus(num(1), num(2)), plus(num(1), full(ir.Const, 3)), false)
	dirty := full(ir.Const, 3)
	dirty.Num = 2
	wantSame(t, plus(num(1), num(2)), plus(num(1), dirty), true)
	wantSame(t, on(ir.Node{Kind: ir.Time}, num(1)), ir.Node{Kind: ir.Time}, true)
	wantSame(t, on(ir.Node{Kind: 99}, num(1)), ir.Node{Kind: 99, Fn: 4}, true)
	wantSame(t, ir.Node{Kind: 99}, ir.Node{Kind: 98}, false)
	// No list and an empty one are the same.
	none := on(ir.Node{Kind: ir.Binary, Fn: 1}, ir.Node{Kind: ir.Select}, ir.Node{Kind: ir.Agg, Fn: 1, Kids: []ir.Node{}})
	empty := on(ir.Node{Kind: ir.Binary, Fn: 1, X: api.Match{G: api.Group{Names: []string{}}, Include: []string{}}},
		ir.Node{Kind: ir.Select, M: []api.Matcher{}}, ir.Node{Kind: ir.Agg, Fn: 1, G: api.Group{Names: []string{}}})
	wantSame(t, none, empty, true)
	// Deep, and wide.
	a, b := num(1), num(2)
	for range 199 {
		a, b = mapped(a), mapped(b)
	}
	wantSame(t, a, a, true)
	wantSame(t, a, b, false)
}

// TestP1201SameOfAll: of many plans, just those that have the same when they are picked.
func TestP1201SameOfAll(t *testing.T) {
	l := plans(300, 1)
	texts := make([]string, len(l))
	for i, n := range l {
		texts[i] = told(n)
	}
	for i, a := range l {
		for j, b := range l {
			if want := texts[i] == texts[j]; ir.Same(a, b) != want {
				t.Errorf("Same of %s and %s is not %v", show(a), show(b), want)
			}
		}
	}
}

// told tells all of n that its kinds have, any NaN as one.
func told(n ir.Node) string {
	return show(canon(picked(n)))
}

func canon(n ir.Node) ir.Node {
	if math.IsNaN(n.Num) {
		n.Num = nan
	}
	kids := slices.Clone(n.Kids)
	for i := range kids {
		kids[i] = canon(kids[i])
	}
	n.Kids = kids
	return n
}

// TestP1201Memory: Clean's answer is new memory, and no two of its lists share any.
func TestP1201Memory(t *testing.T) {
	n := roomy(every())
	before := show(n)
	c := ir.Clean(n)
	clean := show(c)
	spoil(c)
	if show(n) != before {
		t.Error("Clean's answer is the plan's memory")
	}
	c = ir.Clean(n)
	spoil(n)
	if show(c) != clean {
		t.Error("Clean's answer changes with the plan")
	}
	if show(ir.Clean(roomy(every()))) != clean {
		t.Error("Clean answers otherwise")
	}
	names, m := []string{"a", "b"}, []api.Matcher{equal("a", "1")}
	leaf := []ir.Node{{Kind: ir.Select, M: m}}
	absent := ir.Node{Kind: ir.Absent, M: m, Kids: leaf}
	shared := ir.Node{Kind: ir.Binary, Fn: 1, X: api.Match{G: api.Group{How: 1, Names: names}, Card: 1, Include: names},
		Kids: []ir.Node{{Kind: ir.Agg, Fn: 1, G: api.Group{How: 1, Names: names}, Kids: leaf}, absent}}
	want := show(shared)
	for i := range 6 {
		c := ir.Clean(shared)
		switch i {
		case 0:
			c.X.G.Names[0] = "z"
			c.X.G.Names = names
		case 1:
			c.X.Include[0] = "z"
			c.X.Include = names
		case 2:
			c.Kids[0].G.Names[0] = "z"
			c.Kids[0].G.Names = names
		case 3:
			c.Kids[1].M[0] = like("z")
			c.Kids[1].M = m
		case 4:
			c.Kids[0].Kids[0].M[0] = like("z")
			c.Kids[0].Kids[0].M = m
		case 5:
			c.Kids[0].Kids[0] = num(1)
			c.Kids[0].Kids = leaf
		}
		if show(c) != want {
			t.Errorf("%d: two lists share memory: %s", i, show(c))
		}
	}
}

func wantCheck(t *testing.T, what string, n ir.Node, want int, err api.Errno) {
	t.Helper()
	before := show(n)
	if got, e := ir.Check(n); got != want || e != err {
		t.Errorf("%s: %d, %v instead of %d, %v", what, got, e, want, err)
	}
	if show(n) != before {
		t.Errorf("%s: the plan is changed", what)
	}
}

// TestP1202Types: of each kind but Binary, of each type of its kid.
func TestP1202Types(t *testing.T) {
	const s, v = api.TScalar, api.TVector
	for _, c := range []struct {
		n                      ir.Node
		none, ofScalar, ofVect int
	}{
		{num(1), s, 0, 0},
		{num(nan), s, 0, 0},
		{ir.Node{Kind: ir.Time}, s, 0, 0},
		{sel("m"), v, 0, 0},
		{ir.Node{Kind: ir.Select}, v, 0, 0},
		{ir.Node{Kind: ir.Window, Fn: api.WSum, Range: 1}, v, 0, 0},
		{ir.Node{Kind: ir.Empty}, v, 0, 0},
		{ir.Node{Kind: ir.Sub, Fn: api.WSum, Range: 2, Step: 1}, 0, v, v},
		{ir.Node{Kind: ir.Map, Fn: api.FAbs}, 0, s, v},
		{ir.Node{Kind: ir.Agg, Fn: api.ASum}, 0, -1, v},
		{ir.Node{Kind: ir.ToScalar}, 0, -1, s},
		{ir.Node{Kind: ir.ToVector}, 0, v, -1},
		{ir.Node{Kind: ir.Label, Name: "a"}, 0, -1, v},
		{ir.Node{Kind: ir.Absent}, 0, -1, v},
	} {
		for want, kids := range map[*int][]ir.Node{&c.none: nil, &c.ofScalar: {num(1)}, &c.ofVect: {sel("m")}} {
			what := fmt.Sprintf("kind %d of %d kids", c.n.Kind, len(kids))
			switch *want {
			case 0:
				wantCheck(t, what, on(c.n, kids...), 0, api.ErrArg)
			case -1:
				wantCheck(t, what, on(c.n, kids...), 0, api.ErrType)
			default:
				wantCheck(t, what, on(c.n, kids...), *want, api.OK)
			}
		}
		wantCheck(t, "of two kids", on(c.n, sel("m"), sel("m")), 0, api.ErrArg)
		wantCheck(t, "of three kids", on(c.n, num(1), num(1), num(1)), 0, api.ErrArg)
	}
	for _, kind := range []int{0, -1, 14, 15, 99, 1 << 32, math.MinInt, math.MaxInt} {
		wantCheck(t, "of a kind that is none", ir.Node{Kind: kind}, 0, api.ErrArg)
		wantCheck(t, "of a kind that is none", ir.Node{Kind: kind, Kids: []ir.Node{num(1)}}, 0, api.ErrArg)
	}
	wantCheck(t, "a Binary of one", on(ir.Node{Kind: ir.Binary, Fn: 1}, num(1)), 0, api.ErrArg)
	wantCheck(t, "a Binary of none", ir.Node{Kind: ir.Binary, Fn: 1}, 0, api.ErrArg)
	wantCheck(t, "a Binary of three", on(ir.Node{Kind: ir.Binary, Fn: 1}, num(1), num(1), num(1)), 0, api.ErrArg)
}

// binaryType is a Binary's type, by the words of the promise: 0 of what does not fit.
func binaryType(op int, flag, zero, one bool, types string) int {
	arith := slices.Contains([]int{api.Add, api.Sub, api.Mul, api.Div}, op) && !flag
	compared := slices.Contains([]int{api.Eq, api.Ne, api.Gt, api.Lt, api.Ge, api.Le}, op)
	chosen := slices.Contains([]int{api.And, api.Or, api.Less, api.Deft}, op) && !flag
	switch {
	case types == "ss" && zero && (arith || compared && flag):
		return api.TScalar
	case types == "sv" && zero && (arith || compared):
		return api.TVector
	case types == "vs" && zero && (arith || compared || op == api.Deft && chosen):
		return api.TVector
	case types == "vv" && (arith || compared || chosen && one):
		return api.TVector
	}
	return 0
}

// TestP1202BinaryTypes: each operator, with and without flag, of each match, of each two types.
func TestP1202BinaryTypes(t *testing.T) {
	kids := map[byte]ir.Node{'s': num(1), 'v': sel("m")}
	matches := []api.Match{
		{}, {G: api.Group{Names: []string{}}, Include: []string{}},
		{G: api.Group{How: api.By}}, {G: api.Group{How: api.By, Names: []string{"a"}}}, {G: api.Group{How: api.Without}}, {G: api.Group{How: api.Without, Names: []string{"a", "b"}}},
		{Card: api.ManyOne}, {Card: api.OneMany}, {Card: api.ManyOne, Include: []string{"a"}}, {Card: api.OneMany, Include: []string{"a", "b"}, G: api.Group{How: api.By, Names: []string{"c"}}},
	}
	for op := api.Add; op <= api.Deft; op++ {
		for _, flag := range []bool{false, true} {
			for i, x := range matches {
				for _, types := range []string{"ss", "sv", "vs", "vv"} {
					n := on(ir.Node{Kind: ir.Binary, Fn: op, Flag: flag, X: x}, kids[types[0]], kids[types[1]])
					want := binaryType(op, flag, i < 2, x.Card == api.OneOne, types)
					err := api.OK
					if want == 0 {
						err = api.ErrType
					}
					wantCheck(t, fmt.Sprintf("operator %d, %v, match %v of %s", op, flag, x, types), n, want, err)
				}
			}
		}
	}
}

// TestP1202Nodes: what each field may be and may not.
func TestP1202Nodes(t *testing.T) {
	const most = api.MaxTime
	window := func(fn, length int) ir.Node { return ir.Node{Kind: ir.Window, Fn: fn, Range: length} }
	for _, c := range []struct {
		what string
		n    ir.Node
		err  api.Errno
	}{
		{"offset", ir.Node{Kind: ir.Select, Offset: most}, api.OK},
		{"offset", ir.Node{Kind: ir.Select, Offset: -most}, api.OK},
		{"offset", ir.Node{Kind: ir.Select, Offset: most + 1}, api.ErrArg},
		{"offset", ir.Node{Kind: ir.Select, Offset: -most - 1}, api.ErrArg},
		{"offset", ir.Node{Kind: ir.Select, Offset: math.MinInt}, api.ErrArg},
		{"offset", ir.Node{Kind: ir.Window, Fn: 1, Range: 1, Offset: most}, api.OK},
		{"offset", ir.Node{Kind: ir.Window, Fn: 1, Range: 1, Offset: -most - 1}, api.ErrArg},
		{"offset", on(ir.Node{Kind: ir.Sub, Fn: 1, Range: 1, Step: 1, Offset: -most}, num(1)), api.OK},
		{"offset", on(ir.Node{Kind: ir.Sub, Fn: 1, Range: 1, Step: 1, Offset: most + 1}, num(1)), api.ErrArg},
		{"range", window(1, most), api.OK},
		{"range", window(1, most+1), api.ErrArg},
		{"range", window(1, math.MaxInt), api.ErrArg},
		{"range", window(1, 0), api.ErrArg},
		{"range", window(1, -1), api.ErrArg},
		{"range", window(1, math.MinInt), api.ErrArg},
		{"sub", sub(most, most, num(1)), api.OK},
		{"sub", sub(1, most, num(1)), api.OK},
		{"sub", sub(most+1, most, num(1)), api.ErrArg},
		{"sub", sub(most, most+1, num(1)), api.ErrArg},
		{"sub", sub(math.MaxInt, 1, num(1)), api.ErrArg},
		{"sub", sub(1, math.MaxInt, num(1)), api.ErrArg},
		{"sub", sub(0, 1, num(1)), api.ErrArg},
		{"sub", sub(1, 0, num(1)), api.ErrArg},
		{"sub", sub(-1, 1, num(1)), api.ErrArg},
		{"sub", sub(1, -1, num(1)), api.ErrArg},
		{"sub", sub(0, 0, num(1)), api.ErrArg},
		{"sub", sub(math.MinInt, -1, num(1)), api.ErrArg},
		{"steps", sub(1000, 1, num(1)), api.OK},
		{"steps", sub(1001, 1, num(1)), api.ErrLimit},
		{"steps", sub(2000, 2, num(1)), api.OK},
		{"steps", sub(2001, 2, num(1)), api.ErrLimit},
		{"steps", sub(2002, 2, num(1)), api.ErrLimit},
		{"steps", sub(1000*(most/1000), most/1000, num(1)), api.OK},
		{"steps", sub(most, most/1000, num(1)), api.ErrLimit},
		{"steps", sub(most, most/1000+1, num(1)), api.OK},
		{"name", on(ir.Node{Kind: ir.Label, Name: "a", Value: "v"}, sel("m")), api.OK},
		{"name", on(ir.Node{Kind: ir.Label, Name: api.Name}, sel("m")), api.OK},
		{"name", on(ir.Node{Kind: ir.Label, Name: strings.Repeat("n", api.MaxName)}, sel("m")), api.OK},
		{"name", on(ir.Node{Kind: ir.Label, Name: strings.Repeat("n", api.MaxName+1)}, sel("m")), api.ErrArg},
		{"name", on(ir.Node{Kind: ir.Label}, sel("m")), api.ErrArg},
		{"name", on(ir.Node{Kind: ir.Label, Name: "1"}, sel("m")), api.ErrArg},
		{"name", on(ir.Node{Kind: ir.Label, Name: "a-b"}, sel("m")), api.ErrArg},
		{"value", on(ir.Node{Kind: ir.Label, Name: "a", Value: strings.Repeat("\x00", api.MaxValue)}, sel("m")), api.OK},
		{"value", on(ir.Node{Kind: ir.Label, Name: "a", Value: strings.Repeat("v", api.MaxValue+1)}, sel("m")), api.ErrArg},
		{"number", num(stale), api.OK},
		{"number", on(ir.Node{Kind: ir.Agg, Fn: api.ATop, Num: nan}, sel("m")), api.OK},
		{"number", on(ir.Node{Kind: ir.Map, Fn: api.FMin, Num: -inf}, sel("m")), api.OK},
	} {
		got, err := ir.Check(c.n)
		if err != c.err || (got == 0) != (err != api.OK) {
			t.Errorf("%s of %s: %d, %v instead of %v", c.what, show(c.n), got, err, c.err)
		}
	}
}

// TestP1202Functions: which Fn each kind may have.
func TestP1202Functions(t *testing.T) {
	for fn := -3; fn <= 40; fn++ {
		for _, c := range []struct {
			n    ir.Node
			most int
		}{
			{ir.Node{Kind: ir.Window, Fn: fn, Range: 1}, api.WTurn},
			{on(ir.Node{Kind: ir.Sub, Fn: fn, Range: 1, Step: 1}, sel("m")), api.WTurn},
			{on(ir.Node{Kind: ir.Map, Fn: fn}, sel("m")), api.FMax},
			{on(ir.Node{Kind: ir.Binary, Fn: fn}, sel("m"), sel("n")), api.Deft},
			{on(ir.Node{Kind: ir.Agg, Fn: fn}, sel("m")), api.AGroup},
		} {
			want, err := api.TVector, api.OK
			if fn < 1 || fn > c.most {
				want, err = 0, api.ErrArg
			}
			wantCheck(t, fmt.Sprintf("kind %d, Fn %d", c.n.Kind, fn), c.n, want, err)
		}
	}
}

// many answers n names of labels.
func many(n int) []string {
	var out []string
	for i := range n {
		out = append(out, fmt.Sprintf("n%02d", i))
	}
	return out
}

// TestP1202Lists: matchers, groups and matches that may not be; where the kind does not have them nobody asks.
func TestP1202Lists(t *testing.T) {
	deep := strings.Repeat("(", api.MaxDepth+1) + strings.Repeat(")", api.MaxDepth+1)
	for _, c := range []struct {
		m   []api.Matcher
		err api.Errno
	}{
		{nil, api.OK}, {[]api.Matcher{equal("a", ""), like("b|c")}, api.OK},
		{slices.Repeat([]api.Matcher{equal("a", "1")}, api.MaxNames), api.OK},
		{slices.Repeat([]api.Matcher{equal("a", "1")}, api.MaxNames+1), api.ErrArg},
		{[]api.Matcher{{Kind: 5, Name: "a"}}, api.ErrArg}, {[]api.Matcher{equal("1", "a")}, api.ErrArg},
		{[]api.Matcher{like("(")}, api.ErrForm}, {[]api.Matcher{like(deep)}, api.ErrLimit},
		{[]api.Matcher{like(deep), like("(")}, api.ErrLimit}, {[]api.Matcher{equal("a", ""), like("("), equal("", "")}, api.ErrForm},
	} {
		for _, n := range []ir.Node{{Kind: ir.Select, M: c.m}, {Kind: ir.Window, Fn: 1, Range: 1, M: c.m}, {Kind: ir.Absent, M: c.m, Kids: []ir.Node{sel("m")}}} {
			want := api.TVector
			if c.err != api.OK {
				want = 0
			}
			wantCheck(t, fmt.Sprintf("kind %d with %v", n.Kind, c.m), n, want, c.err)
		}
	}
	groups := []api.Group{{How: 3}, {How: -1}, {Names: []string{"a"}}, {How: 1, Names: []string{"a", "a"}}, {How: 1, Names: []string{"1"}}, {How: 2, Names: many(33)}}
	for _, g := range groups {
		wantCheck(t, fmt.Sprint("group ", g), on(ir.Node{Kind: ir.Agg, Fn: 1, G: g}, sel("m")), 0, api.ErrArg)
		wantCheck(t, fmt.Sprint("match ", g), on(ir.Node{Kind: ir.Binary, Fn: 1, X: api.Match{G: g}}, sel("m"), sel("n")), 0, api.ErrArg)
	}
	wantCheck(t, "group of 32", on(ir.Node{Kind: ir.Agg, Fn: 1, G: api.Group{How: 2, Names: many(32)}}, sel("m")), api.TVector, api.OK)
	for _, x := range []api.Match{{Card: 3}, {Card: -1}, {Include: []string{"a"}}, {Card: 1, Include: []string{"a", "a"}}, {Card: 2, Include: []string{""}},
		{Card: 1, Include: []string{"a"}, G: api.Group{How: 1, Names: []string{"a"}}}, {Card: 1, Include: many(33)}} {
		for _, kids := range [][]ir.Node{{sel("m"), sel("n")}, {num(1), num(2)}, {num(1), sel("m")}} {
			wantCheck(t, fmt.Sprint("match ", x), on(ir.Node{Kind: ir.Binary, Fn: 1, X: x}, kids...), 0, api.ErrArg)
		}
	}
}

// TestP1202NotHad: what a kind does not have is not asked, whatever it is.
func TestP1202NotHad(t *testing.T) {
	wrong := ir.Node{Num: nan, Fn: 99, M: []api.Matcher{like("(")}, Range: -1, Step: -1, Offset: math.MaxInt,
		G: api.Group{How: 9}, X: api.Match{Card: 9, Include: []string{""}}, Flag: true, Name: "", Value: strings.Repeat("v", 999)}
	good := ir.Node{Fn: 1, Range: 1, Step: 1, Name: "a"}
	for kind := ir.Const; kind <= ir.Empty; kind++ {
		n := wrong
		n.Kind = kind
		has, kids := had(kind, 1)
		for _, field := range has {
			reflect.ValueOf(&n).Elem().FieldByName(field).Set(reflect.ValueOf(good).FieldByName(field))
		}
		k := sel("m")
		if kind == ir.ToVector {
			k = num(1)
		}
		n.Kids = slices.Repeat([]ir.Node{k}, kids)
		want := api.TVector
		if slices.Contains([]int{ir.Const, ir.Time, ir.ToScalar}, kind) {
			want = api.TScalar
		}
		wantCheck(t, fmt.Sprint("kind ", kind), n, want, api.OK)
	}
}

// TestP1202Order: of two faults that which the promise names first.
func TestP1202Order(t *testing.T) {
	form := []api.Matcher{like("(")}
	bad := ir.Node{Kind: ir.Select, M: form}
	odd := on(ir.Node{Kind: ir.ToScalar}, num(1))
	long := sub(1001, 1, num(1))
	for i, c := range []struct {
		n   ir.Node
		err api.Errno
	}{
		// A kid's error, of whatever kind, ahead of the node's own; of kids the first one's.
		{ir.Node{Kind: 99, Kids: []ir.Node{bad}}, api.ErrForm},
		{on(num(1), bad), api.ErrForm},
		{on(ir.Node{Kind: ir.ToScalar}, sel("m"), odd), api.ErrType},
		{on(ir.Node{Kind: ir.Map, Fn: 99}, odd), api.ErrType},
		{on(ir.Node{Kind: ir.Map, Fn: 99}, long), api.ErrLimit},
		{on(ir.Node{Kind: ir.Absent, M: form}, odd), api.ErrType},
		{on(ir.Node{Kind: ir.Sub, Fn: 1, Range: 1, Step: 1, Offset: math.MaxInt}, odd), api.ErrType},
		{on(ir.Node{Kind: ir.Label, Name: "1"}, odd), api.ErrType},
		{plus(bad, odd), api.ErrForm}, {plus(odd, bad), api.ErrType}, {plus(odd, ir.Node{}), api.ErrType}, {plus(ir.Node{}, odd), api.ErrArg}, {plus(long, bad), api.ErrLimit},
		{plus(sel("m"), bad), api.ErrForm}, {plus(num(1), long), api.ErrLimit},
		{plus(plus(num(1), mapped(odd)), bad), api.ErrType},
		{plus(plus(num(1), mapped(bad)), odd), api.ErrForm},
		// Kids that are too many or too few ahead of all else of the node.
		{on(bad, num(1)), api.ErrArg}, {ir.Node{Kind: ir.Absent, M: form}, api.ErrArg}, {on(ir.Node{Kind: ir.Window, Fn: 1, M: form, Range: 1}, sel("m")), api.ErrArg},
		{on(sub(1001, 1, num(1)), num(1), num(1)), api.ErrArg}, {ir.Node{Kind: ir.Sub, Fn: 1, Range: 1001, Step: 1}, api.ErrArg},
		// Matchers ahead of times, and of Fn; times ahead of their bound, and that ahead of Fn.
		{ir.Node{Kind: ir.Select, M: form, Offset: math.MaxInt}, api.ErrForm},
		{ir.Node{Kind: ir.Window, M: form, Fn: 1, Range: 0}, api.ErrForm},
		{ir.Node{Kind: ir.Window, M: form, Fn: 1, Range: 1, Offset: math.MinInt}, api.ErrForm},
		{ir.Node{Kind: ir.Window, M: form, Fn: 0, Range: 1}, api.ErrForm},
		{on(ir.Node{Kind: ir.Sub, Fn: 1, Range: 1001, Step: 1, Offset: math.MaxInt}, num(1)), api.ErrArg},
		{on(ir.Node{Kind: ir.Sub, Fn: 0, Range: 1001, Step: 1}, num(1)), api.ErrLimit},
		{on(ir.Node{Kind: ir.Sub, Fn: 99, Range: 2001, Step: 2}, num(1)), api.ErrLimit},
		// Types last.
		{on(ir.Node{Kind: ir.Absent, M: form}, num(1)), api.ErrForm},
		{on(ir.Node{Kind: ir.Agg, Fn: 9}, num(1)), api.ErrArg}, {on(ir.Node{Kind: ir.Agg, Fn: 1, G: api.Group{How: 3}}, num(1)), api.ErrArg},
		{on(ir.Node{Kind: ir.Label, Name: "1"}, num(1)), api.ErrArg}, {on(ir.Node{Kind: ir.Label, Name: "a", Value: strings.Repeat("v", 257)}, num(1)), api.ErrArg},
		{on(ir.Node{Kind: ir.Binary, Fn: 15}, num(1), num(1)), api.ErrArg}, {on(ir.Node{Kind: ir.Binary, Fn: 1, X: api.Match{Card: 3}}, num(1), num(1)), api.ErrArg},
		{on(ir.Node{Kind: ir.Binary, Fn: api.And, X: api.Match{Card: 3}, Flag: true}, sel("m"), sel("m")), api.ErrArg},
	} {
		wantCheck(t, fmt.Sprintf("%d: %s", i, show(c.n)), c.n, 0, c.err)
	}
}

// tower answers k with so many nodes above it.
func tower(n int, k ir.Node) ir.Node {
	for range n {
		k = mapped(k)
	}
	return k
}

// bush answers a plan of scalars of n leaves, 2n - 1 nodes, as low as can be.
func bush(n int) ir.Node {
	if n == 1 {
		return num(1)
	}
	return plus(bush(n/2), bush(n-n/2))
}

func TestP1202Size(t *testing.T) {
	wantCheck(t, "399 nodes", bush(200), api.TScalar, api.OK)
	wantCheck(t, "400 nodes", tower(1, bush(200)), api.TScalar, api.OK)
	wantCheck(t, "401 nodes", tower(2, bush(200)), 0, api.ErrLimit)
	wantCheck(t, "401 nodes", bush(201), 0, api.ErrLimit)
	wantCheck(t, "many nodes", bush(2000), 0, api.ErrLimit)
	// The limits go ahead of all errors, and of kids that are too many.
	wantCheck(t, "400 nodes", on(num(1), slices.Repeat([]ir.Node{num(1)}, 399)...), 0, api.ErrArg)
	wantCheck(t, "401 nodes", on(num(1), slices.Repeat([]ir.Node{num(1)}, 400)...), 0, api.ErrLimit)
	wantCheck(t, "401 nodes of no kind", on(ir.Node{}, slices.Repeat([]ir.Node{{Kind: 99}}, 400)...), 0, api.ErrLimit)
	bad := ir.Node{Kind: ir.Select, M: []api.Matcher{like("(")}}
	wantCheck(t, "401 nodes, the first one wrong", plus(bad, bush(200)), 0, api.ErrLimit)
	wantCheck(t, "399 nodes, the first one wrong", plus(bad, bush(199)), 0, api.ErrForm)
	wantCheck(t, "400 nodes, the last one wrong", plus(tower(1, bush(199)), bad), 0, api.ErrForm)
}

func TestP1202Depth(t *testing.T) {
	wantCheck(t, "40 deep", tower(39, sel("m")), api.TVector, api.OK)
	wantCheck(t, "41 deep", tower(40, sel("m")), 0, api.ErrLimit)
	wantCheck(t, "200 deep", tower(199, sel("m")), 0, api.ErrLimit)
	wantCheck(t, "41 deep behind", plus(num(1), tower(39, num(1))), 0, api.ErrLimit)
	wantCheck(t, "40 deep behind", plus(num(1), tower(38, num(1))), api.TScalar, api.OK)
	bad := ir.Node{Kind: ir.Select, M: []api.Matcher{like("(")}}
	wantCheck(t, "41 deep, and wrong", tower(40, bad), 0, api.ErrLimit)
	wantCheck(t, "40 deep, and wrong", tower(39, bad), 0, api.ErrForm)
	wantCheck(t, "41 deep behind what is wrong", plus(bad, tower(39, num(1))), 0, api.ErrLimit)
}

// TestP1202Points: the Subs of one way down, multiplied.
func TestP1202Points(t *testing.T) {
	const most = api.MaxTime
	one := num(1)
	bad := ir.Node{Kind: ir.Select, M: []api.Matcher{like("(")}}
	for i, c := range []struct {
		n   ir.Node
		err api.Errno
	}{
		{sub(63, 1, sub(63, 1, one)), api.OK},
		{sub(64, 1, sub(63, 1, one)), api.ErrLimit},
		{sub(63, 1, sub(64, 1, one)), api.ErrLimit},
		{sub(15, 1, sub(15, 1, sub(15, 1, one))), api.OK},
		{sub(15, 1, sub(15, 1, sub(16, 1, one))), api.ErrLimit},
		{sub(127, 2, sub(1919, 30, one)), api.OK}, // 64 and 64, downwards
		{sub(127, 2, sub(1920, 30, one)), api.ErrLimit},
		{sub(1, 2, sub(1, most, sub(63, 1, sub(63, 1, one)))), api.OK}, // a step above the range: one point
		{sub(1, 1, sub(63, 1, sub(63, 1, one))), api.ErrLimit},
		// Through all kinds of nodes.
		{sub(64, 1, plus(one, mapped(sub(63, 1, one)))), api.ErrLimit},
		{sub(63, 1, plus(one, mapped(sub(63, 1, one)))), api.OK},
		{plus(one, sub(63, 1, mapped(sub(64, 1, one)))), api.ErrLimit},
		{mapped(sub(64, 1, on(ir.Node{Kind: ir.ToVector}, on(ir.Node{Kind: ir.ToScalar}, sub(63, 1, one))))), api.ErrLimit},
		// Along one way alone: what stands beside does not count.
		{plus(sub(63, 1, sub(63, 1, one)), sub(63, 1, sub(63, 1, one))), api.OK},
		{sub(63, 1, plus(sub(63, 1, one), sub(63, 1, one))), api.OK},
		{sub(63, 1, plus(sub(62, 1, one), sub(64, 1, one))), api.ErrLimit},
		// Ahead of all other errors, wherever they are; the bound of one Sub comes in its turn.
		{plus(bad, sub(64, 1, sub(63, 1, one))), api.ErrLimit},
		{plus(bad, sub(63, 1, sub(63, 1, one))), api.ErrForm},
		{plus(bad, sub(1001, 1, one)), api.ErrForm},
		{plus(bad, sub(4095, 1, one)), api.ErrForm},
		{plus(bad, sub(4096, 1, one)), api.ErrLimit},
		{sub(4095, 1, bad), api.ErrForm},
		{sub(4096, 1, bad), api.ErrLimit},
		{sub(most, 1, bad), api.ErrLimit},
		{sub(4095, 1, sub(most, 1, bad)), api.ErrLimit},
		{sub(63, 1, sub(63, 1, sub(1001, 1, bad))), api.ErrLimit},
		{on(num(1), sub(64, 1, sub(63, 1, one))), api.ErrLimit},
		{on(ir.Node{Kind: 99}, bad, sub(64, 1, sub(63, 1, one))), api.ErrLimit},
		// Subs whose Range or Step may not be do not count, and other kinds do not.
		{plus(bad, sub(most+1, 1, one)), api.ErrForm},
		{plus(bad, sub(math.MaxInt, 1, one)), api.ErrForm},
		{plus(bad, sub(5000, 0, one)), api.ErrForm},
		{plus(bad, sub(5000, -1, one)), api.ErrForm},
		{plus(bad, sub(-5000, -1, one)), api.ErrForm},
		{plus(bad, sub(math.MinInt, -1, one)), api.ErrForm},
		{plus(bad, sub(0, 1, one)), api.ErrForm},
		{plus(bad, sub(most, most+1, one)), api.ErrForm},
		{sub(63, 1, sub(0, 1, sub(64, 1, bad))), api.ErrLimit},
		{sub(63, 1, sub(-2, 1, sub(63, 1, bad))), api.ErrForm},
		{sub(-2, 1, sub(-70, 1, sub(64, 1, bad))), api.ErrForm},
		{plus(bad, ir.Node{Kind: ir.Window, Fn: 1, Range: 5000, Step: 1}), api.ErrForm},
		{ir.Node{Kind: ir.Window, Fn: 1, Range: 5000, Step: 1}, api.OK},
		{on(ir.Node{Kind: ir.Map, Fn: 1, Range: 5000, Step: 1}, one), api.OK},
		// A Sub counts whatever else of it is wrong.
		{plus(bad, on(ir.Node{Kind: ir.Sub, Fn: 99, Range: 64, Step: 1, Offset: math.MaxInt}, one, one, sub(63, 1, one))), api.ErrLimit},
		{plus(bad, ir.Node{Kind: ir.Sub, Range: 4096, Step: 1}), api.ErrLimit},
	} {
		got, err := ir.Check(c.n)
		if err != c.err || (got == 0) != (err != api.OK) {
			t.Errorf("%d: %s: %d, %v instead of %v", i, show(c.n), got, err, c.err)
		}
	}
}

// TestP1202OfAll: many plans, right and wrong ones, against what the words of the promise say.
func TestP1202OfAll(t *testing.T) {
	seen := map[api.Errno]int{}
	for wild := range 4 {
		for _, n := range plans(3000, wild) {
			want, err := checked(n)
			seen[err]++
			wantCheck(t, show(n), n, want, err)
		}
	}
	for _, err := range []api.Errno{api.OK, api.ErrArg, api.ErrForm, api.ErrType, api.ErrLimit} {
		if seen[err] < 30 {
			t.Errorf("%v: no more than %d plans", err, seen[err])
		}
	}
}

// checked is what Check is to answer of the plans that maker makes, found apart from the program.
func checked(n ir.Node) (int, api.Errno) {
	if nodes, deep := measured(n); nodes > 400 || deep > 40 || points(n) > 4096 {
		return 0, api.ErrLimit
	}
	return checkedNode(n)
}

func measured(n ir.Node) (nodes, deep int) {
	for _, k := range n.Kids {
		a, b := measured(k)
		nodes, deep = nodes+a, max(deep, b)
	}
	return nodes + 1, deep + 1
}

// points answers the greatest product of the Subs' points on a way down.
func points(n ir.Node) int {
	most := 1
	for _, k := range n.Kids {
		most = max(most, points(k))
	}
	if n.Kind == ir.Sub && n.Range > 0 && n.Step > 0 {
		most *= int(math.Floor(float64(n.Range)/float64(n.Step))) + 1
	}
	return most
}

func checkedNode(n ir.Node) (int, api.Errno) {
	types := ""
	for _, k := range n.Kids {
		x, err := checkedNode(k)
		if err != api.OK {
			return 0, err
		}
		types += map[int]string{api.TScalar: "s", api.TVector: "v"}[x]
	}
	has, kids := had(n.Kind, n.Fn)
	asks := func(field string, right bool, err api.Errno) func() api.Errno {
		return func() api.Errno {
			if slices.Contains(has, field) && !right {
				return err
			}
			return api.OK
		}
	}
	matcher := api.Matcher{}
	if len(n.M) > 0 {
		matcher = n.M[0]
	}
	functions := map[int]int{ir.Window: 14, ir.Sub: 14, ir.Map: 5, ir.Binary: 14, ir.Agg: 8}
	for _, f := range []func() api.Errno{
		func() api.Errno {
			if n.Kind < 1 || n.Kind > 13 || len(n.Kids) != kids {
				return api.ErrArg
			}
			return api.OK
		},
		asks("M", matcher.Name != "1", api.ErrArg),
		asks("M", matcher.Value != "(", api.ErrForm),
		asks("Offset", n.Offset <= api.MaxTime, api.ErrArg),
		asks("Range", n.Range > 0, api.ErrArg),
		asks("Step", n.Step > 0, api.ErrArg),
		asks("Step", float64(n.Range)/float64(n.Step) <= 1000, api.ErrLimit),
		asks("Fn", n.Fn >= 1 && n.Fn <= functions[n.Kind], api.ErrArg),
		asks("X", rightGroup(n.X.G) && n.X.Card < 3 && (n.X.Card > 0 || len(n.X.Include) == 0), api.ErrArg),
		asks("G", rightGroup(n.G), api.ErrArg),
		asks("Name", n.Name != "" && n.Name != "1", api.ErrArg),
	} {
		if err := f(); err != api.OK {
			return 0, err
		}
	}
	return typed(n, types)
}

func rightGroup(g api.Group) bool {
	return g.How < 3 && (g.How > 0 || len(g.Names) == 0)
}

func typed(n ir.Node, types string) (int, api.Errno) {
	if n.Kind == ir.Binary {
		zero := n.X.G.How == 0 && n.X.Card == 0
		if x := binaryType(n.Fn, n.Flag, zero, n.X.Card == 0, types); x != 0 {
			return x, api.OK
		}
		return 0, api.ErrType
	}
	x := map[string]int{
		"1 ": api.TScalar, "2 ": api.TScalar, "3 ": api.TVector, "4 ": api.TVector, "13 ": api.TVector,
		"5 s": api.TVector, "5 v": api.TVector, "6 s": api.TScalar, "6 v": api.TVector,
		"8 v": api.TVector, "9 v": api.TScalar, "10 s": api.TVector, "11 v": api.TVector, "12 v": api.TVector,
	}[fmt.Sprint(n.Kind, " ", types)]
	if x == 0 {
		return 0, api.ErrType
	}
	return x, api.OK
}

func TestP1203SizeDepth(t *testing.T) {
	for _, c := range []struct {
		n           ir.Node
		size, depth int
	}{
		{ir.Node{}, 1, 1}, {num(1), 1, 1}, {ir.Node{Kind: ir.Map}, 1, 1}, {on(num(1), num(2)), 2, 2}, {plus(num(1), mapped(num(2))), 4, 3}, {plus(mapped(num(1)), num(2)), 4, 3},
		{on(ir.Node{Kind: 99}, num(1), num(2), num(3)), 4, 2},
		{tower(37, num(1)), 38, 38}, {tower(38, num(1)), 39, 39}, {tower(39, num(1)), 40, 40}, {tower(40, num(1)), 41, 41}, {tower(41, num(1)), 42, 41}, {tower(199, num(1)), 200, 41},
		{plus(num(1), tower(38, num(1))), 41, 40}, {plus(num(1), tower(39, num(1))), 42, 41}, {plus(tower(40, num(1)), tower(41, num(1))), 84, 41},
		{bush(200), 399, 9}, {mapped(bush(200)), 400, 10}, {bush(201), 401, 9}, {mapped(bush(201)), 401, 10}, {bush(2048), 401, 12},
		{on(num(1), slices.Repeat([]ir.Node{num(1)}, 398)...), 399, 2}, {on(num(1), slices.Repeat([]ir.Node{num(1)}, 399)...), 400, 2},
		{on(num(1), slices.Repeat([]ir.Node{num(1)}, 400)...), 401, 2}, {on(num(1), slices.Repeat([]ir.Node{num(1)}, 401)...), 401, 2},
		{on(num(1), slices.Repeat([]ir.Node{num(1)}, 4095)...), 401, 2},
		{on(num(1), slices.Repeat([]ir.Node{mapped(num(1))}, 199)...), 399, 3}, {on(num(1), slices.Repeat([]ir.Node{mapped(num(1))}, 200)...), 401, 3},
		{on(num(1), slices.Repeat([]ir.Node{mapped(num(1))}, 2000)...), 401, 3}, {on(num(1), slices.Repeat([]ir.Node{bush(100)}, 3)...), 401, 9},
	} {
		if size, depth := ir.Size(c.n), ir.Depth(c.n); size != c.size || depth != c.depth {
			t.Errorf("%d nodes, %d deep instead of %d, %d", size, depth, c.size, c.depth)
		}
	}
	for _, n := range plans(500, 3) {
		nodes, deep := measured(n)
		if size, depth := ir.Size(n), ir.Depth(n); size != min(nodes, 401) || depth != min(deep, 41) {
			t.Errorf("%s: %d nodes, %d deep", show(n), size, depth)
		}
	}
}

func TestP1203Text(t *testing.T) {
	group := api.Group{How: api.By, Names: []string{"b", "a"}}
	for _, c := range []struct {
		n    ir.Node
		want string
	}{
		{num(1.5), `(1 1.5)`}, {num(minus), `(1 -0)`}, {num(0), `(1 0)`}, {num(odd), `(1 NaN)`}, {num(stale), `(1 NaN)`}, {num(inf), `(1 +Inf)`}, {num(-inf), `(1 -Inf)`}, {num(1e21), `(1 1e+21)`},
		{ir.Node{Kind: ir.Time}, `(2)`}, {ir.Node{Kind: ir.Empty}, `(13)`},
		{ir.Node{Kind: ir.Select}, `(3 [] 0)`}, {sel("m\n\"x\\"), `(3 [__name__="m\x0a\"x\\"] 0)`},
		{ir.Node{Kind: ir.Select, Offset: -5, M: []api.Matcher{equal("a", ""), {Kind: api.NotEqual, Name: "b", Value: "1"}, like("x.*"), {Kind: api.NotLike, Name: "c", Value: "y"}}},
			`(3 [a="",b!="1",a=~"x.*",c!~"y"] -5)`},
		{ir.Node{Kind: ir.Window, Fn: api.WTurn, Range: 60000, Offset: 1, M: []api.Matcher{equal("a", "1")}}, `(4 14 [a="1"] 60000 1)`},
		{on(ir.Node{Kind: ir.Sub, Fn: 2, Range: 30, Step: 10, Offset: 7}, num(1)), `(5 2 30 10 7 (1 1))`},
		{on(ir.Node{Kind: ir.Map, Fn: api.FNeg, Num: 4}, num(1)), `(6 2 (1 1))`},
		{on(ir.Node{Kind: ir.Map, Fn: api.FMin, Num: 4}, num(1)), `(6 4 4 (1 1))`}, {on(ir.Node{Kind: ir.Map, Fn: api.FMax, Num: -0.5}, num(1)), `(6 -0.5 5 (1 1))`},
		{on(ir.Node{Kind: ir.Binary, Fn: api.Deft}, sel("m"), num(1)), `(7 14 0[]0[] false (3 [__name__="m"] 0) (1 1))`},
		{on(ir.Node{Kind: ir.Binary, Fn: api.Gt, Flag: true, X: api.Match{G: api.Group{How: api.Without, Names: []string{"x"}}, Card: api.OneMany, Include: []string{"z", "y"}}}, num(1), num(2)),
			`(7 7 2[x]2[z,y] true (1 1) (1 2))`},
		{on(ir.Node{Kind: ir.Agg, Fn: api.AGroup, Num: 3, G: group}, num(1)), `(8 8 1[b,a] (1 1))`}, {on(ir.Node{Kind: ir.Agg, Fn: api.ATop, Num: 3, G: group}, num(1)), `(8 3 6 1[b,a] (1 1))`},
		{on(ir.Node{Kind: ir.Agg, Fn: api.ABottom, Num: nan}, num(1)), `(8 NaN 7 0[] (1 1))`},
		{on(ir.Node{Kind: ir.ToScalar}, sel("m")), `(9 (3 [__name__="m"] 0))`}, {on(ir.Node{Kind: ir.ToVector}, num(1)), `(10 (1 1))`},
		{on(ir.Node{Kind: ir.Label, Name: "a", Value: "\x7f "}, num(1)), `(11 "a" "\x7f " (1 1))`}, {on(ir.Node{Kind: ir.Label}, num(1)), `(11 "" "" (1 1))`},
		{on(ir.Node{Kind: ir.Absent, M: []api.Matcher{equal("a", "1")}}, num(1)), `(12 [a="1"] (1 1))`},
		// Kinds that are none, kids that are too many or too few, matchers of no kind.
		{full(99, 1), `(99)`}, {full(-4, 1), `(-4)`}, {ir.Node{}, `(0)`}, {on(num(1), num(2)), `(1 1)`}, {ir.Node{Kind: ir.ToScalar}, `(9)`},
		{on(ir.Node{Kind: ir.Binary, Fn: -1}, num(1)), `(7 -1 0[]0[] false (1 1))`}, {on(ir.Node{Kind: ir.ToVector}, num(1), num(2)), `(10 (1 1))`},
		{ir.Node{Kind: ir.Select, M: []api.Matcher{{Kind: 9, Name: "a"}, equal("a", "")}}, `(3 [,a=""] 0)`},
		{ir.Node{Kind: ir.Window, Fn: math.MinInt, Range: math.MaxInt}, `(4 -9223372036854775808 [] 9223372036854775807 0)`},
	} {
		if got := ir.Text(c.n); got != c.want {
			t.Errorf("%s instead of %s", got, c.want)
		}
	}
}

// TestP1203Texts: plans that Check takes have like Texts just if they are the Same.
func TestP1203Texts(t *testing.T) {
	var l []ir.Node
	for _, n := range plans(6000, 0) {
		if _, err := ir.Check(n); err == api.OK {
			l = append(l, n)
		}
	}
	pairs := 0
	texts, wants := make([]string, len(l)), make([]string, len(l))
	for i, n := range l {
		texts[i], wants[i] = ir.Text(n), told(n)
	}
	for i := range l {
		for j := range i {
			if (texts[i] == texts[j]) != (wants[i] == wants[j]) {
				t.Errorf("%s and %s are told %s, %s", show(l[i]), show(l[j]), texts[i], texts[j])
			}
			if texts[i] == texts[j] {
				pairs++
			}
		}
	}
	if len(l) < 1000 || pairs < 100 {
		t.Errorf("no more than %d plans, %d pairs", len(l), pairs)
	}
}

// walked tells what Walk goes over.
func walked(n ir.Node) string {
	var b strings.Builder
	for depth, x := range ir.Walk(n) {
		b.WriteString(fmt.Sprint(depth, show(x), "\n"))
	}
	return b.String()
}

// gone is what Walk is to go over, found apart from the program.
func gone(n ir.Node, depth int) string {
	s := ""
	for _, k := range n.Kids {
		s += gone(k, depth+1)
	}
	return s + fmt.Sprint(depth, show(n), "\n")
}

func TestP1203Walk(t *testing.T) {
	for _, n := range append(plans(300, 3), ir.Node{}, every(), on(num(1), num(2), num(3), num(4)), tower(199, num(1)), bush(300)) {
		if got, want := walked(n), gone(n, 1); got != want {
			t.Errorf("%s instead of %s", got, want)
		}
	}
}

// TestP1203WalkLeft: a walk may be left at each node, and gone through again, within another one too.
func TestP1203WalkLeft(t *testing.T) {
	n := plus(mapped(num(1)), plus(num(2), mapped(sel("m"))))
	walk := ir.Walk(n)
	for stop := range 9 {
		left := 0
		for range walk {
			left++
			if left > stop {
				break
			}
		}
		if left != min(stop+1, 7) {
			t.Errorf("left at %d behind %d nodes", stop, left)
		}
	}
	calls := 0
	walk(func(int, ir.Node) bool {
		calls++
		return calls < 3
	})
	if calls != 3 {
		t.Errorf("%d nodes, though 3 were enough", calls)
	}
	outer, inner := 0, 0
	for range walk {
		outer++
		for range walk {
			inner++
		}
	}
	if outer != 7 || inner != 49 {
		t.Errorf("%d and %d nodes", outer, inner)
	}
}

// TestP1203WalkMemory: a walk goes over the plan as it was, and what is done to its nodes is seen nowhere else.
func TestP1203WalkMemory(t *testing.T) {
	n := roomy(every())
	before, want := show(n), gone(n, 1)
	walk := ir.Walk(n)
	for range 2 {
		got := ""
		for depth, x := range walk {
			got += fmt.Sprint(depth, show(x), "\n")
			spoil(x)
		}
		if got != want {
			t.Errorf("%s instead of %s", got, want)
		}
	}
	if show(n) != before {
		t.Error("a walk's nodes are the plan's memory")
	}
	for depth, x := range walk {
		if depth == 1 {
			x.Kids[0].G.Names[0] = "z"
			x.X.G.Names[0] = "z"
			if x.Kids[1].Kids[0].Name != "n" || x.X.Include[0] != "g" || x.Kids[0].X.G.Names[0] != "d" {
				t.Error("lists of one node share memory")
			}
		}
	}
	spoil(n)
	got := ""
	for depth, x := range walk {
		got += fmt.Sprint(depth, show(x), "\n")
	}
	if got != want {
		t.Error("a walk changes with the plan")
	}
	var kept []ir.Node
	for _, x := range walk {
		kept = append(kept, x)
	}
	shown := show(kept[0])
	for _, x := range kept[1:] {
		spoil(x)
	}
	if show(kept[0]) != shown {
		t.Error("a walk's nodes share memory")
	}
}

// TestP1Plain: whatever plans are given, each call ends, answers the same twice and leaves the plan as it was.
func TestP1Plain(t *testing.T) {
	wide := on(num(1), slices.Repeat([]ir.Node{full(ir.Select, 1)}, 4095)...)
	for _, n := range append(plans(500, 10), ir.Node{}, wide, tower(199, full(0, 0)), full(math.MinInt, math.MinInt)) {
		before := show(n)
		a, e := ir.Check(n)
		b, f := ir.Check(n)
		if a != b || e != f || (a == 0) != (e != api.OK) {
			t.Errorf("Check of %s: %d, %v and %d, %v", before, a, e, b, f)
		}
		if ir.Text(n) != ir.Text(n) || ir.Size(n) != ir.Size(n) || ir.Depth(n) != ir.Depth(n) || show(ir.Clean(n)) != show(ir.Clean(n)) || !ir.Same(n, n) || walked(n) != walked(n) {
			t.Errorf("%s is answered otherwise", before)
		}
		if show(n) != before {
			t.Errorf("%s was changed", before)
		}
	}
}
