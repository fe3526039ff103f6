package vec_test

import (
	"fmt"
	"math"
	"runtime"
	"slices"
	"testing"
	"time"

	"isobar/api"
	"isobar/ir"
	"isobar/store"
	"isobar/vec"
	"isobar/walk"
	"isobar/window"
)

// scatter answers n numbers from 0 to below bound, the same ones in each run of the same seed.
func scatter(seed uint64, n, bound int) []int {
	l, x := make([]int, n), seed
	for i := range l {
		x = x*6364136223846793005 + 1442695040888963407
		l[i] = int((x ^ x>>29) % uint64(bound))
	}
	return l
}

// maker makes stores and plans of numbers that are given, as long as there are some.
type maker struct {
	l []int
}

func makerOf(seed int) *maker {
	return &maker{scatter(uint64(seed), 900, 1<<30)}
}

func (m *maker) of(n int) int {
	if len(m.l) == 0 {
		return 0
	}
	x := m.l[0]
	m.l = m.l[1:]
	return x % n
}

func pick[T any](m *maker, l ...T) T {
	return l[m.of(len(l))]
}

// raws answers samples of a few series, most of them near 0, some as far off as the lookback goes.
func (m *maker) raws() []store.Raw {
	var out []store.Raw
	for range 4 + m.of(60) {
		l := pick(m, metric("m", "x", "1"), metric("m", "x", "2"), metric("m", "x", "1", "y", "1"), metric("n", "x", "1"), metric("n", "x", "2", "y", "2"),
			metric("n", "x", "1", "z", "1"), metric("n", "x", "1", "z", "2"), list("x", "1"), list("y", "2"), nil)
		t := pick(m, m.of(30), m.of(30), m.of(30)-10, m.of(10)-299995)
		v := pick(m, 0, minus, 1, 1, 2, 3, -2.5, 0.1, inf, odd, stale, stale)
		out = append(out, store.Raw{L: l, T: t, V: v})
	}
	return out
}

func (m *maker) matchers() []api.Matcher {
	return pick(m, nil, named("m"), named("m"), named("n"), []api.Matcher{equal("x", "1")}, []api.Matcher{like("x", "1|2"), equal("y", "")}, append(named("n"), equal("z", "1")),
		[]api.Matcher{{Kind: api.NotEqual, Name: api.Name, Value: "n"}}, []api.Matcher{{Kind: api.NotLike, Name: "y", Value: "2|3"}, like(api.Name, "m|n")})
}

func (m *maker) group() api.Group {
	return pick(m, api.Group{}, by("x"), by("y"), by("y", "x"), by(), by(api.Name), api.Group{How: api.Without, Names: []string{"y"}}, api.Group{How: api.Without, Names: []string{"z"}}, api.Group{How: api.Without})
}

func (m *maker) node(deep, vector int) ir.Node {
	if vector > 0 {
		return m.vector(deep)
	}
	return m.scalar(deep)
}

func (m *maker) scalar(deep int) ir.Node {
	if deep < 1 {
		return pick(m, now(), now(), num(pick(m, 0, 1, 2, minus, -2.5, nan, inf)))
	}
	switch m.of(4) {
	case 0:
		return toScalar(m.vector(deep - 1))
	case 1:
		return mapped(1+m.of(5), pick(m, 0, 1, nan), m.scalar(deep-1))
	}
	n := op(1+m.of(10), m.scalar(deep-1), m.scalar(deep-1))
	n.Flag = n.Fn >= api.Eq
	return n
}

func (m *maker) vector(deep int) ir.Node {
	if deep < 1 || m.of(8) == 0 {
		leaf := ir.Node{Kind: pick(m, ir.Select, ir.Select, ir.Window, ir.Empty), Fn: 1 + m.of(14), M: m.matchers(), Range: 1 + m.of(20), Offset: m.of(11) - 5}
		if m.of(20) == 0 {
			leaf.Offset = pick(m, 299995, -299995)
		}
		return leaf
	}
	switch m.of(9) {
	case 0:
		return sub(1+m.of(14), 1+m.of(9), 1+m.of(4), m.of(5)-2, m.node(deep-1, m.of(4)))
	case 1:
		return mapped(1+m.of(5), pick(m, 0, 1, nan), m.vector(deep-1))
	case 2:
		return grouped(1+m.of(8), m.group(), pick(m, 1, 2, 0, nan), m.vector(deep-1))
	case 3:
		return label(pick(m, "x", "y", api.Name), pick(m, "", "1", "2"), m.vector(deep-1))
	case 4:
		return absent(m.vector(deep-1), m.matchers()...)
	case 5:
		return toVector(m.scalar(deep - 1))
	case 6:
		n := op(1+m.of(10), m.vector(deep-1), m.scalar(deep-1))
		n.Flag = n.Fn >= api.Eq && m.of(2) > 0
		if m.of(2) > 0 {
			slices.Reverse(n.Kids)
		} else if m.of(4) == 0 {
			n.Fn, n.Flag = api.Deft, false
		}
		return n
	}
	return m.pair(deep)
}

// pair answers an operator of two vectors.
func (m *maker) pair(deep int) ir.Node {
	n := op(1+m.of(14), m.vector(deep-1), m.vector(deep-1))
	n.Flag = n.Fn >= api.Eq && n.Fn <= api.Le && m.of(2) > 0
	n.X.G = m.group()
	if n.Fn <= api.Le && m.of(2) > 0 {
		n.X.Card = 1 + m.of(2)
		n.X.Include = pick(m, nil, []string{"z"}, []string{api.Name}, []string{"z", "y"})
	}
	if _, err := ir.Check(n); err != api.OK {
		n.X = api.Match{}
	}
	return n
}

// grid answers one of up to 20 points, some of them far from each other.
func (m *maker) grid() api.Grid {
	g := api.Grid{Start: m.of(30) - 12, Step: 1 + m.of(6)}
	g.End = g.Start + m.of(20)
	if m.of(9) == 0 {
		g = api.Grid{Start: m.of(99) - 300050, End: 300000 + m.of(99), Step: 100000 + m.of(9)}
	}
	return g
}

// TestP1401OfAll: plans that were made, on stores that were made, against walk.
func TestP1401OfAll(t *testing.T) {
	seen := map[api.Errno]int{}
	several := 0
	for seed := range 12000 {
		m := makerOf(seed)
		n, raws := m.node(m.of(5), m.of(6)), m.raws()
		s := storeOf(t, raws)
		most, g := pick(m, roomy, roomy, 3, 2), m.grid()
		got, err := vec.Run(n, s, most, g)
		want, wantErr := walk.Query(n, s, most, g)
		if told(got, err) != told(want, wantErr) {
			t.Fatalf("%d: %s at %v, most %d:\n%s instead of\n%s", seed, ir.Text(n), g, most, told(got, err), told(want, wantErr))
		}
		if walk.Known(got) != api.OK || !walk.Same(got, want) {
			t.Errorf("%d: %s is not known, or not the same", seed, told(got, err))
		}
		seen[err]++
		if len(got) > 1 {
			several++
		}
	}
	for _, err := range []api.Errno{api.OK, api.ErrDup, api.ErrMany, api.ErrLimit} {
		if seen[err] < 300 {
			t.Errorf("%v came %d times", err, seen[err])
		}
	}
	if several < 1000 {
		t.Errorf("%d had several series", several)
	}
}

// TestP1401Values: each function, aggregation and operator of values of all kinds, bit by bit, against walk.
func TestP1401Values(t *testing.T) {
	var l [][]store.Raw
	for i := range 6 {
		for at, place := range scatter(uint64(i), 90, len(values)) {
			l = append(l, raws(metric("v", "g", fmt.Sprint(i%2), "i", fmt.Sprint(i)), float64(at), values[place]))
		}
	}
	s, g, v := storeOf(t, l...), grid(0, 90, 1), sel("v")
	for fn := 1; fn <= 14; fn++ {
		wantWalk(t, win(fn, "v", 5, 0), s, roomy, g)
		wantWalk(t, sub(fn, 7, 2, 0, v), s, roomy, g)
	}
	for fn := api.FAbs; fn <= api.FMax; fn++ {
		for _, x := range values {
			wantWalk(t, mapped(fn, x, v), s, roomy, g)
			wantWalk(t, mapped(fn, x, toScalar(grouped(api.AMin, api.Group{}, 0, v))), s, roomy, g)
		}
	}
	for fn := api.ASum; fn <= api.AGroup; fn++ {
		for _, k := range []float64{0, 0.9, 1, 2.5, 3, 5, 99, -1, 1e300, inf, -inf, nan} {
			wantWalk(t, grouped(fn, api.Group{}, k, v), s, roomy, g)
			wantWalk(t, grouped(fn, by("g"), k, v), s, roomy, g)
		}
	}
	for fn := api.Add; fn <= api.Le; fn++ {
		for _, flag := range []bool{false, fn >= api.Eq} {
			for _, x := range values {
				a, b := op(fn, v, num(x)), op(fn, num(x), v)
				a.Flag, b.Flag = flag, flag
				wantWalk(t, a, s, roomy, g)
				wantWalk(t, b, s, roomy, g)
			}
			for _, card := range []int{api.OneOne, api.ManyOne, api.OneMany} {
				n := op(fn, late(1, v), v)
				n.Flag, n.X = flag, api.Match{G: by("i"), Card: card}
				wantWalk(t, n, s, roomy, g)
			}
		}
	}
}

// TestP1401Turns: two vectors whose labels take turns as time goes on, joined with the names that they include.
func TestP1401Turns(t *testing.T) {
	var l [][]store.Raw
	for i := range 40 {
		from, to := float64(i*10), float64(i*10+10+i%3)
		l = append(l, raws(metric("info", "job", fmt.Sprint(i%4), "version", fmt.Sprint(i)), from, 1, to, stale),
			raws(metric("up", "job", fmt.Sprint(i%4), "pod", fmt.Sprint(i/7)), from, float64(i), from+25, stale))
	}
	s := storeOf(t, l...)
	seen := map[api.Errno]int{}
	for _, names := range [][]string{{"job"}, {"job", "version"}, {"pod"}, {}} {
		for _, include := range [][]string{nil, {"version"}, {"version", api.Name}, {"none"}, {"pod", "version"}} {
			for start := 0; start < 12; start += 3 {
				g := grid(start, start+400, 12-start)
				m := api.Match{G: by(names...), Card: api.ManyOne, Include: include}
				seen[wantWalk(t, matched(m, op(api.Add, sel("up"), sel("info"))), s, roomy, g)]++
				seen[wantWalk(t, matched(m, op(api.Gt, sel("up"), late(3, sel("info")))), s, roomy, g)]++
				m.Card = api.OneMany
				seen[wantWalk(t, matched(m, op(api.Sub, sel("info"), sel("up"))), s, roomy, g)]++
				for fn := api.And; fn <= api.Deft; fn++ {
					wantWalk(t, matched(api.Match{G: by(names...)}, op(fn, sel("up"), sel("info"))), s, roomy, g)
				}
			}
		}
	}
	if seen[api.OK] < 50 || seen[api.ErrMany] < 50 {
		t.Errorf("OK came %d times, ErrMany %d times", seen[api.OK], seen[api.ErrMany])
	}
	m := api.Match{G: by("job"), Card: api.ManyOne, Include: []string{"version"}}
	wantRun(t, matched(m, op(api.Mul, sel("up"), sel("info"))), s, 4, grid(5, 55, 10),
		`ok; {job="0",pod="0",version="0"} 5:0; {job="0",pod="0",version="4"} 45:4; {job="1",pod="0",version="1"} 15:1; {job="1",pod="0",version="5"} 55:5; {job="2",pod="0",version="2"} 25:2; {job="3",pod="0",version="3"} 35:3`)
}

// TestP1401Names: labels as many as may be, of which one more is not taken.
func TestP1401Names(t *testing.T) {
	var full []string
	for i := range api.MaxNames {
		full = append(full, fmt.Sprintf("n%02d", i), "v")
	}
	other := slices.Clone(full)
	other[1] = "w"
	s := storeOf(t, raws(list(full...), 0, 1), raws(list(other...), 5, 1, 8, stale), raws(list("a", "1", "z", "2"), 0, 3))
	one := ir.Node{Kind: ir.Select, M: []api.Matcher{equal("a", "1")}}
	two := ir.Node{Kind: ir.Select, M: []api.Matcher{equal("n01", "v")}}
	for _, include := range [][]string{{"a"}, {"z", "a"}, {"n00", "a"}, {"a", "n00"}, {api.Name}} {
		for _, g := range []api.Grid{grid(0, 4, 1), grid(0, 12, 4), grid(0, 12, 1)} {
			wantWalk(t, matched(api.Match{G: by(), Card: api.ManyOne, Include: include}, op(api.Add, two, one)), s, 2, g)
		}
	}
	for _, name := range []string{"a", "n00", "z", api.Name} {
		for _, value := range []string{"", "v", "x"} {
			wantWalk(t, label(name, value, two), s, 2, grid(0, 12, 4))
		}
	}
	if err := wantWalk(t, label("n00", "v", two), s, 2, grid(0, 12, 5)); err != api.ErrDup {
		t.Errorf("two of one name: %v", err)
	}
	wantRun(t, grouped(api.ACount, api.Group{}, 0, label("a", "1", two)), s, 2, grid(0, 8, 4), "ok; {} 0:1 4:1 8:1")
}

// TestP1401Wide: far more series than there are goroutines, each with its own values, in the order of labels.
func TestP1401Wide(t *testing.T) {
	for _, count := range []int{1, 7, 8, 9, 15, 16, 17, 100} {
		var l [][]store.Raw
		for i := range count {
			l = append(l, raws(metric("m", "i", fmt.Sprintf("%03d", (i*37)%count)), 0, float64((i*37)%count), 10, float64(2*((i*37)%count))))
		}
		s := storeOf(t, l...)
		for _, n := range []ir.Node{win(api.WSum, "m", 20, 0), sub(api.WSum, 11, 10, 0, sel("m")), op(api.Add, sel("m"), late(10, sel("m")))} {
			got, err := vec.Run(n, s, count, grid(10, 10, 1))
			if err != api.OK || len(got) != count {
				t.Fatalf("%s: %v, %d series", ir.Text(n), err, len(got))
			}
			for i, x := range got {
				if want := fmt.Sprintf(`{i="%03d"} 10:%d`, i, 3*i); told([]api.Series{x}, api.OK) != "ok; "+want {
					t.Errorf("%s: %s instead of %s", ir.Text(n), told([]api.Series{x}, api.OK), want)
				}
			}
		}
	}
}

// TestP1401Columns: what is done a column at once takes memory a column at once: not more often for more points.
func TestP1401Columns(t *testing.T) {
	var l [][]store.Raw
	for i := range 20 {
		for at := range 40 {
			l = append(l, raws(metric("m", "i", fmt.Sprint(i)), float64(at*100), float64(i*at)))
		}
	}
	s := storeOf(t, l...)
	m := sel("m")
	for _, n := range []ir.Node{m, win(api.WRate, "m", 300, 0), mapped(api.FAbs, 0, m), grouped(api.ASum, by("i"), 0, m), op(api.Add, m, m), op(api.Lt, m, num(100)), op(api.And, m, m), op(api.Div, m, grouped(api.AMax, api.Group{}, 0, win(api.WSum, "m", 300, 0))),
		sub(api.WSum, 1000, 1, 0, grouped(api.ASum, api.Group{}, 0, m)), sub(api.WMax, 5, 1, 0, label("x", "1", m))} {
		if n.Kind == ir.Binary && n.Fn == api.Div {
			n.X = api.Match{G: by(), Card: api.ManyOne}
		}
		taken := func(points int) float64 {
			return testing.AllocsPerRun(2, func() {
				if _, err := vec.Run(n, s, roomy, grid(0, points-1, 1)); err != api.OK {
					t.Fatal(err)
				}
			})
		}
		if few, many := taken(2), taken(4000); many > few+2000 {
			t.Errorf("%s: memory was taken %v times for 2 points, %v times for 4000", ir.Text(n), few, many)
		}
	}
}

// TestP1401Pairings: points of which no two of a side are there at one time meet as one column, not each with each.
func TestP1401Pairings(t *testing.T) {
	var l [][]store.Raw
	for i := range 100 {
		at := float64(i * 10)
		l = append(l, raws(metric("a", "i", fmt.Sprint(i)), at, at, at+10, stale), raws(metric("b", "i", fmt.Sprint(i)), at, at, at+10, stale))
	}
	s, g := storeOf(t, l...), grid(0, 999, 3)
	for _, card := range []int{api.OneOne, api.ManyOne, api.OneMany} {
		n := matched(api.Match{G: by(), Card: card}, op(api.Add, sel("a"), sel("b")))
		if err := wantWalk(t, n, s, 1, g); err != api.OK {
			t.Errorf("%s: %v", ir.Text(n), err)
		}
		if taken := testing.AllocsPerRun(1, func() { vec.Run(n, s, 1, g) }); taken > 10000 {
			t.Errorf("%s: memory was taken %v times", ir.Text(n), taken)
		}
	}
}

// TestP1401NotHad: fields that a node of a kind does not have change nothing, whatever they are.
func TestP1401NotHad(t *testing.T) {
	for seed := range 1500 {
		m := makerOf(seed)
		n := m.node(m.of(5), m.of(6))
		s, g := storeOf(t, m.raws()), m.grid()
		clean, cleanErr := vec.Run(ir.Clean(n), s, 3, g)
		full, fullErr := vec.Run(filled(n), s, 3, g)
		if told(full, fullErr) != told(clean, cleanErr) {
			t.Fatalf("%d: %s at %v: %s instead of %s", seed, ir.Text(n), g, told(full, fullErr), told(clean, cleanErr))
		}
	}
}

// filled answers n with all fields set that its kinds do not have.
func filled(n ir.Node) ir.Node {
	clean := ir.Clean(n)
	for _, set := range []func(*ir.Node){
		func(n *ir.Node) { n.Num = nan }, func(n *ir.Node) { n.Fn = 3 }, func(n *ir.Node) { n.M = named("m") }, func(n *ir.Node) { n.Range = math.MaxInt },
		func(n *ir.Node) { n.Step = 7 }, func(n *ir.Node) { n.Offset = math.MinInt }, func(n *ir.Node) { n.G = by("x") },
		func(n *ir.Node) { n.X = api.Match{G: by("x"), Card: api.ManyOne} }, func(n *ir.Node) { n.Flag = true }, func(n *ir.Node) { n.Name, n.Value = "x", "9" },
	} {
		// Of one node alone: kids that have it would tell it apart.
		lone, was := n, clean
		lone.Kids, was.Kids = nil, nil
		set(&lone)
		if ir.Same(lone, was) {
			set(&n)
		}
	}
	var kids []ir.Node
	for _, k := range n.Kids {
		kids = append(kids, filled(k))
	}
	return on(n, kids...)
}

// withRoom answers a copy of n all of whose lists have room behind them.
func withRoom(n ir.Node) ir.Node {
	n.M = append(slices.Grow([]api.Matcher{}, len(n.M)+2), n.M...)
	for _, l := range []*[]string{&n.G.Names, &n.X.G.Names, &n.X.Include} {
		*l = append(slices.Grow([]string{}, len(*l)+2), *l...)
	}
	kids := slices.Grow([]ir.Node{}, len(n.Kids)+2)
	for _, k := range n.Kids {
		kids = append(kids, withRoom(k))
	}
	n.Kids = kids
	return n
}

// whole tells all that a plan's lists hold, their room too.
func whole(n ir.Node) string {
	s := fmt.Sprintf("%d %X %d %v %d %d %d %v %q %q %q %v %q %q %d (", n.Kind, math.Float64bits(n.Num), n.Fn, n.M[:cap(n.M)], n.Range, n.Step, n.Offset,
		n.G.How, n.G.Names[:cap(n.G.Names)], n.X.G.Names[:cap(n.X.G.Names)], n.X.Include[:cap(n.X.Include)], n.Flag, n.Name, n.Value, len(n.Kids))
	for _, k := range n.Kids[:cap(n.Kids)] {
		s += whole(k)
	}
	return s + ")"
}

func wholeStore(s *store.Store) string {
	var l []api.Series
	for i := range s.Len() {
		x, _ := s.Series(i)
		l = append(l, x)
	}
	return told(l, api.OK)
}

func scrawlLabels(l []api.Label) {
	l = l[:cap(l)]
	for i := range l {
		l[i] = api.Label{Name: "scrawl", Value: "99"}
	}
}

// scrawl overwrites all that an answer's lists hold, their room too.
func scrawl(l []api.Series) {
	l = l[:cap(l)]
	for i := range l {
		scrawlLabels(l[i].L)
		s := l[i].S[:cap(l[i].S)]
		for k := range s {
			s[k] = api.Sample{T: -99, V: 99}
		}
		l[i] = api.Series{L: list("scrawl", "99")}
	}
}

// wantApart asks that no list of an answer shares memory with another one of it, their room too.
func wantApart(t *testing.T, l []api.Series) {
	t.Helper()
	for i, x := range l {
		l[i] = api.Series{}
		rest := told(l, api.OK)
		var one []api.Series
		one = append(one, x)
		scrawl(one)
		if told(l, api.OK) != rest {
			t.Error("lists of one answer share memory")
		}
	}
}

// TestP2Memory: plans and stores stay as they are; what was answered may be overwritten, and nothing that is
// answered later tells of it.
func TestP2Memory(t *testing.T) {
	for seed := range 600 {
		m := makerOf(seed)
		n := withRoom(m.node(m.of(5), m.of(6)))
		s, g := storeOf(t, m.raws()), m.grid()
		was, held := whole(n), wholeStore(s)
		l, err := vec.Run(n, s, 9, g)
		k, _ := vec.Run(n, s, 9, g)
		first := told(l, err)
		scrawl(k)
		if told(l, err) != first {
			t.Errorf("%s: two answers share memory", ir.Text(n))
		}
		scrawl(l)
		l, err = vec.Run(n, s, 9, g)
		if told(l, err) != first {
			t.Errorf("%s: another answer, the second time", ir.Text(n))
		}
		wantApart(t, l)
		if whole(n) != was || wholeStore(s) != held {
			t.Errorf("%s: the plan, or the store, has changed", ir.Text(n))
		}
	}
	kids := []ir.Node{sel("a"), sel("a")}
	n := op(api.Add, ir.Node{Kind: ir.Binary, Fn: api.Mul, Kids: kids}, ir.Node{Kind: ir.Binary, Fn: api.Sub, Kids: kids})
	wantRun(t, n, few(t), roomy, grid(0, 40, 20), `ok; {x="1"} 0:1 20:16; {x="2"} 20:9 40:64`)
}

// TestP3TheSameAgain: the same calls answer the same, also beside others, and none of theirs goes on behind.
func TestP3TheSameAgain(t *testing.T) {
	s := storeOf(t, makerOf(11).raws(), raws(metric("w"), 1, 1, 2, 2))
	var plans []ir.Node
	for seed := range 60 {
		m := makerOf(seed)
		plans = append(plans, m.node(4, m.of(6)))
	}
	ask := func() string {
		out := ""
		for _, n := range plans {
			l, err := vec.Run(n, s, 4, grid(-3, 21, 2))
			out += told(l, err) + "\n"
		}
		return out
	}
	before := runtime.NumGoroutine()
	was := ask()
	answers := make(chan string)
	for range 8 {
		go func() { answers <- ask() }()
	}
	for range 8 {
		if <-answers != was {
			t.Error("another answer, beside others")
		}
	}
	for range 1000 {
		if runtime.NumGoroutine() <= before {
			return
		}
		time.Sleep(time.Millisecond)
	}
	t.Errorf("%d goroutines are left", runtime.NumGoroutine()-before)
}

// TestP1Plain: whatever plain data is given, each call ends and none panics.
func TestP1Plain(t *testing.T) {
	s := few(t)
	numbers := []int{math.MinInt, math.MinInt + 1, -1 << 50, -1, 0, 1, 2, 14, 1 << 20, 1 << 50, math.MaxInt - 1, math.MaxInt}
	for seed := range 4000 {
		m := makerOf(seed)
		n := m.node(3, m.of(2))
		broken(m, &n, numbers)
		for range 3 {
			g := api.Grid{Start: pick(m, pick(m, numbers...), 0), End: pick(m, pick(m, numbers...), 3), Step: pick(m, pick(m, numbers...), 1)}
			wantWalk(t, n, s, pick(m, pick(m, numbers...), 5, 5), g)
			if _, err := vec.Load(n, s, g); err < api.OK || err > api.ErrLimit {
				t.Errorf("%v", err)
			}
			c, d := m.column(), m.column()
			made, ok := vec.Fn(pick(m, numbers...), 1, c)
			wantNothing(t, made, ok)
			made, ok = vec.Op(pick(m, numbers...), c, d)
			wantNothing(t, made, ok)
			b := vec.Batch{L: make([][]api.Label, m.of(4)), C: make([]window.Column, m.of(4))}
			for i := range b.C {
				b.C[i] = m.column()
			}
			vec.Series(b, g)
		}
	}
	deep := num(1)
	for range 199 {
		deep = mapped(api.FAbs, 0, deep)
	}
	wantRun(t, deep, s, 1, grid(0, 0, 1), "limit")
	wantRun(t, on(num(1), make([]ir.Node, 4000)...), s, 1, grid(0, 0, 1), "limit")
	wantWalk(t, all(), &store.Store{}, 1, grid(0, 0, 1))
}

// column answers one of lengths that may differ.
func (m *maker) column() window.Column {
	return window.Column{V: make([]float64, m.of(6)), Has: slices.Repeat([]bool{m.of(2) > 0}, m.of(6))}
}

func wantNothing(t *testing.T, c window.Column, ok bool) {
	t.Helper()
	if !ok && (len(c.V) > 0 || len(c.Has) > 0) || len(c.V) != len(c.Has) {
		t.Errorf("%v, %v", c, ok)
	}
}

// broken sets some field of some node to what may not be, or seldom is.
func broken(m *maker, n *ir.Node, numbers []int) {
	at := n
	for len(at.Kids) > 0 && m.of(3) > 0 {
		at = &at.Kids[m.of(len(at.Kids))]
	}
	for _, field := range []*int{&at.Kind, &at.Fn, &at.Range, &at.Step, &at.Offset, &at.G.How, &at.X.Card, &at.X.G.How} {
		if m.of(6) == 0 {
			*field = pick(m, numbers...)
		}
	}
	if m.of(4) == 0 {
		at.Kids = append(at.Kids, ir.Node{})
	}
	if m.of(4) == 0 {
		at.M = append(at.M, api.Matcher{Kind: m.of(6), Name: pick(m, "x", ""), Value: pick(m, "(", "\xff")})
	}
}
