package join_test

import (
	"fmt"
	"math"
	"slices"
	"strings"
	"testing"

	"isobar/api"
	"isobar/join"
	"isobar/labels"
	"isobar/vector"
)

var (
	inf   = math.Inf(1)
	minus = math.Copysign(0, -1)
	nan   = math.Float64frombits(0x7FF8000000000001)
	stale = math.Float64frombits(0x7FF0000000000002)
	odd   = math.Float64frombits(0xFFF8000000000007)
)

// numbers are values of all kinds.
func numbers() []float64 {
	return []float64{0, minus, 1, -1, 2, -2.5, 0.1, 3, 1e16, 5e-324, math.MaxFloat64, inf, -inf, nan, stale, odd}
}

// list answers labels of names and values that take turns.
func list(l ...string) []api.Label {
	var out []api.Label
	for i := 0; i < len(l); i += 2 {
		out = append(out, api.Label{Name: l[i], Value: l[i+1]})
	}
	return out
}

func point(v float64, l ...string) api.Point {
	return api.Point{L: list(l...), V: v}
}

// vec answers a vector of points in any order.
func vec(l ...api.Point) vector.Vec {
	v, err := vector.Normal(l...)
	if err != api.OK {
		panic(show(l) + err.Error())
	}
	return v
}

func on(names ...string) api.Group {
	return api.Group{How: api.By, Names: names}
}

func ignoring(names ...string) api.Group {
	return api.Group{How: api.Without, Names: names}
}

func oneOne(g api.Group) api.Match {
	return api.Match{G: g}
}

func left(g api.Group, include ...string) api.Match {
	return api.Match{G: g, Card: api.ManyOne, Include: include}
}

func right(g api.Group, include ...string) api.Match {
	return api.Match{G: g, Card: api.OneMany, Include: include}
}

// many answers n names of labels.
func many(n int) []string {
	var out []string
	for i := range n {
		out = append(out, fmt.Sprintf("n%02d", i))
	}
	return out
}

// full answers labels of these names, as long as may be, in the order of the names.
func full(names ...string) []api.Label {
	var out []api.Label
	for _, name := range names {
		out = append(out, api.Label{Name: name, Value: strings.Repeat("v", api.MaxValue)})
	}
	return out
}

func show(l []api.Point) string {
	s := ""
	for _, p := range l {
		s += fmt.Sprintf("%s %v (%X); ", labels.Text(p.L), p.V, math.Float64bits(p.V))
	}
	return "[" + s + "]"
}

// canonBits are v's bits, those of the common NaN in place of all: written here apart from the program.
func canonBits(v float64) uint64 {
	if math.IsNaN(v) {
		return math.Float64bits(nan)
	}
	return math.Float64bits(v)
}

// wantVec asks for points, labels and bits, and no error; each NaN of got has the common one's.
func wantVec(t *testing.T, what string, got vector.Vec, err api.Errno, want ...api.Point) {
	t.Helper()
	same := slices.EqualFunc(got, want, func(p, q api.Point) bool {
		return slices.Equal(p.L, q.L) && math.Float64bits(p.V) == canonBits(q.V)
	})
	if !same || err != api.OK {
		t.Errorf("%s: %s, %v instead of %s", what, show(got), err, show(want))
	}
}

func wantErr(t *testing.T, what string, got vector.Vec, err, want api.Errno) {
	t.Helper()
	if err != want || len(got) != 0 {
		t.Errorf("%s: %s, %v instead of %v", what, show(got), err, want)
	}
}

// scatter answers n numbers from 0 to below bound, the same ones in each run of the same seed.
func scatter(seed uint64, n, bound int) []int {
	l, x := make([]int, n), seed
	for i := range l {
		x = x*6364136223846793005 + 1442695040888963407
		l[i] = int((x ^ x>>29) % uint64(bound))
	}
	return l
}

// order compares labels apart from the program: by name, then by value, the shorter first.
func order(a, b []api.Label) int {
	return slices.CompareFunc(a, b, func(x, y api.Label) int {
		if x.Name != y.Name {
			return strings.Compare(x.Name, y.Name)
		}
		return strings.Compare(x.Value, y.Value)
	})
}

// pool answers points in order, about one in every few of all that some names and values make, with values of
// all kinds.
func pool(seed uint64, every int) vector.Vec {
	var v vector.Vec
	kinds := numbers()
	value, taken := scatter(seed, 54, len(kinds)), scatter(seed+7777, 54, every)
	at := -1
	for _, a := range []string{"", "1", "2"} {
		for _, b := range []string{"", "1", "2"} {
			for _, c := range []string{"", "1"} {
				for _, m := range []string{"", "m", "n"} {
					at++
					if taken[at] > 0 {
						continue
					}
					l := list(api.Name, m, "a", a, "b", b, "c", c)
					l = slices.DeleteFunc(l, func(x api.Label) bool { return x.Value == "" })
					v = append(v, api.Point{L: l, V: kinds[value[at]]})
				}
			}
		}
	}
	slices.SortFunc(v, func(p, q api.Point) int { return order(p.L, q.L) })
	return v
}

// groups are ways in which the points of pool may meet.
func groups() []api.Group {
	return []api.Group{
		{}, on(), on("a"), on("b"), on("b", "a"), on(api.Name), on("c", api.Name, "b"), on("a", "b", "c"), on("zz"), on("zz", "a"),
		ignoring(), ignoring("a"), ignoring("a", "b"), ignoring(api.Name), ignoring("b", api.Name), ignoring("zz"), {Names: []string{}},
	}
}

// matches are those of all groups, each way, with names included that may be.
func matches() []api.Match {
	var out []api.Match
	for _, g := range groups() {
		out = append(out, oneOne(g))
		for _, include := range [][]string{nil, {"a"}, {"c"}, {"c", "b"}, {api.Name}, {"b", api.Name, "zz"}} {
			twice := func(name string) bool { return g.How == api.By && slices.Contains(g.Names, name) }
			if !slices.ContainsFunc(include, twice) {
				out = append(out, left(g, include...), right(g, include...))
			}
		}
	}
	return out
}

// wantedSign is the Sign of l, found apart from the program.
func wantedSign(l []api.Label, g api.Group) []api.Label {
	var out []api.Label
	for _, x := range l {
		in := slices.Contains(g.Names, x.Name)
		if g.How == api.By && in || g.How == api.Without && !in && x.Name != api.Name || g.How == 0 && x.Name != api.Name {
			out = append(out, x)
		}
	}
	return out
}

// wantedLabels are the labels of two points that meet.
func wantedLabels(m api.Match, a, b []api.Label) []api.Label {
	has, other := a, b
	switch m.Card {
	case api.OneOne:
		return wantedSign(a, m.G)
	case api.OneMany:
		has, other = b, a
	}
	values := map[string]string{}
	for _, x := range has {
		values[x.Name] = x.Value
	}
	values[api.Name] = ""
	for _, name := range m.Include {
		values[name] = ""
		for _, x := range other {
			if x.Name == name {
				values[name] = x.Value
			}
		}
	}
	var out []api.Label
	for name, value := range values {
		if value != "" {
			out = append(out, api.Label{Name: name, Value: value})
		}
	}
	slices.SortFunc(out, func(x, y api.Label) int { return strings.Compare(x.Name, y.Name) })
	return out
}

// wantedValue is op's outcome of x and y, and whether it is a point.
func wantedValue(op int, flag bool, x, y float64) (float64, bool) {
	if op <= api.Div {
		return []float64{0, x + y, x - y, x * y, x / y}[op], true
	}
	less, equal, more := x < y, x == y, x > y
	holds := []bool{equal, !equal, more, less, more || equal, less || equal}[op-api.Eq]
	if !flag {
		return x, holds
	}
	if holds {
		return 1, true
	}
	return 0, true
}

// repeats tells whether two points have the same labels of those that g matches.
func repeats(v []api.Point, g api.Group) bool {
	for i := range v {
		for j := range i {
			if slices.Equal(wantedSign(v[i].L, g), wantedSign(v[j].L, g)) {
				return true
			}
		}
	}
	return false
}

// wantedBinary is what Binary is to answer of an op and a match that may be, each point held against each.
func wantedBinary(op int, m api.Match, flag bool, a, b vector.Vec) ([]api.Point, api.Errno) {
	if m.Card != api.ManyOne && repeats(a, m.G) || m.Card != api.OneMany && repeats(b, m.G) {
		return nil, api.ErrMany
	}
	var out []api.Point
	for _, p := range a {
		for _, q := range b {
			v, ok := wantedValue(op, flag, p.V, q.V)
			if ok && slices.Equal(wantedSign(p.L, m.G), wantedSign(q.L, m.G)) {
				out = append(out, api.Point{L: wantedLabels(m, p.L, q.L), V: v})
			}
		}
	}
	slices.SortFunc(out, func(p, q api.Point) int { return order(p.L, q.L) })
	for i := range out {
		if i > 0 && order(out[i-1].L, out[i].L) == 0 {
			return nil, api.ErrDup
		}
	}
	return out, api.OK
}

// wantedSet is what Set is to answer of an op and a group that may be.
func wantedSet(op int, g api.Group, a, b vector.Vec) []api.Point {
	found := func(p api.Point, v vector.Vec) bool {
		return slices.ContainsFunc(v, func(q api.Point) bool { return slices.Equal(wantedSign(p.L, g), wantedSign(q.L, g)) })
	}
	var out []api.Point
	for _, p := range a {
		if op == api.Or || op == api.Deft || found(p, b) == (op == api.And) {
			out = append(out, p)
		}
	}
	for _, q := range b {
		if (op == api.Or || op == api.Deft) && !found(q, a) {
			out = append(out, q)
		}
	}
	slices.SortFunc(out, func(p, q api.Point) int { return order(p.L, q.L) })
	return out
}

// refusedGroups are groups that may not be.
func refusedGroups() []api.Group {
	l := []api.Group{{Names: []string{"a"}}, {Names: []string{""}}, {Names: many(api.MaxNames + 1)}}
	for _, how := range []int{math.MinInt, -1, 3, 4, 1 << 32, 1<<32 + 1, math.MaxInt} {
		l = append(l, api.Group{How: how}, api.Group{How: how, Names: []string{"a"}})
	}
	for _, how := range []int{api.By, api.Without} {
		for _, names := range refusedNames() {
			l = append(l, api.Group{How: how, Names: names})
		}
	}
	return l
}

// refusedNames are lists of names that may be neither a group's nor included.
func refusedNames() [][]string {
	l := [][]string{
		{"a", "a"}, {api.Name, api.Name}, {"a", "b", "a"}, {"b", "c", "a", "a"}, append(many(api.MaxNames-1), "n00"),
		many(api.MaxNames + 1), make([]string, api.MaxNames+1),
	}
	for _, name := range []string{"", "1", "9a", "a-b", "a b", "a\x00", "\u00e4", strings.Repeat("n", api.MaxName+1)} {
		l = append(l, []string{name}, []string{"a", name}, []string{name, "a"})
	}
	return l
}

// refused are matches that may not be.
func refused() []api.Match {
	var l []api.Match
	for _, g := range refusedGroups() {
		l = append(l, oneOne(g), left(g), right(g))
	}
	for _, card := range []int{math.MinInt, -1, 3, 4, 1 << 32, 1<<32 + 1, math.MaxInt} {
		l = append(l, api.Match{Card: card}, api.Match{G: on("a"), Card: card}, api.Match{Card: card, Include: []string{"b"}})
	}
	for _, g := range []api.Group{{}, on(), on("a"), ignoring("a")} {
		l = append(l, api.Match{G: g, Include: []string{"b"}}, api.Match{G: g, Include: []string{""}})
		for _, include := range refusedNames() {
			l = append(l, left(g, include...), right(g, include...))
		}
	}
	for _, include := range [][]string{{"a"}, {"b"}, {"c", "a"}, {"b", "c"}, {"c", "d", "b"}} {
		l = append(l, left(on("a", "b"), include...), right(on("a", "b"), include...))
	}
	return append(l, left(on(api.Name), api.Name), right(on(many(api.MaxNames)...), "n31"))
}

func TestP1101CheckRefuses(t *testing.T) {
	for _, m := range refused() {
		if err := join.Check(m); err != api.ErrArg {
			t.Errorf("Check of %v: %v", m, err)
		}
		for op := api.Add; op <= api.Le; op++ {
			for _, v := range []vector.Vec{nil, vector.Of(1), pool(2, 2)} {
				got, err := join.Binary(op, m, op == api.Eq, v, v)
				wantErr(t, fmt.Sprintf("%d by %v", op, m), got, err, api.ErrArg)
			}
		}
	}
}

func TestP1101CheckTakes(t *testing.T) {
	long := strings.Repeat("n", api.MaxName)
	l := append(matches(),
		api.Match{}, api.Match{Include: []string{}}, left(api.Group{}), right(api.Group{}),
		oneOne(on(many(api.MaxNames)...)), left(ignoring(many(api.MaxNames)...), many(api.MaxNames)...), right(on(), many(api.MaxNames)...),
		left(api.Group{}, many(api.MaxNames)...), left(on(long), long[1:]), right(on("A", "_"), "a", "aa", long),
		left(ignoring("a"), "a"), right(ignoring("a", "b"), "c", "b"), left(on(many(api.MaxNames)...), "n32"))
	for _, m := range l {
		if err := join.Check(m); err != api.OK {
			t.Errorf("Check of %v: %v", m, err)
		}
		got, err := join.Binary(api.Add, m, false, nil, vector.Vec{})
		wantVec(t, fmt.Sprintf("of none, by %v", m), got, err)
	}
}

// TestP1CheckOfVeryMany: names far beyond their most are refused without being held against each other.
func TestP1CheckOfVeryMany(t *testing.T) {
	names := make([]string, 1<<20)
	for i := range names {
		names[i] = fmt.Sprintf("n%d", i)
	}
	for range 100 {
		for _, m := range []api.Match{left(on(), names...), right(on(names...), "a"), oneOne(ignoring(names...))} {
			if err := join.Check(m); err != api.ErrArg {
				t.Fatalf("Check: %v", err)
			}
		}
	}
}

func TestP1101Sign(t *testing.T) {
	l := list(api.Name, "m", "a", "1", "b", "2")
	for _, c := range []struct {
		g    api.Group
		want []api.Label
	}{
		{api.Group{}, list("a", "1", "b", "2")},
		{api.Group{Names: []string{"a"}}, list("a", "1", "b", "2")},
		{on(), nil},
		{on("b"), list("b", "2")},
		{on("b", "zz", "a"), list("a", "1", "b", "2")},
		{on(api.Name), list(api.Name, "m")},
		{on("a", api.Name), list(api.Name, "m", "a", "1")},
		{ignoring(), list("a", "1", "b", "2")},
		{ignoring("a"), list("b", "2")},
		{ignoring("b", "a"), nil},
		{ignoring(api.Name, "zz"), list("a", "1", "b", "2")},
		{api.Group{How: 3, Names: []string{"a"}}, nil},
		{api.Group{How: -1}, nil},
	} {
		if got := join.Sign(l, c.g); !slices.Equal(got, c.want) {
			t.Errorf("Sign by %v: %v", c.g, got)
		}
		if got := join.Sign(nil, c.g); len(got) != 0 {
			t.Errorf("Sign of none by %v: %v", c.g, got)
		}
	}
	for _, p := range pool(1, 1) {
		for _, g := range groups() {
			if got := join.Sign(p.L, g); !slices.Equal(got, wantedSign(p.L, g)) {
				t.Errorf("Sign of %v by %v: %v", p.L, g, got)
			}
		}
	}
}

// TestP1102BinaryOfAll: each operator, by many matches, of many vectors; all that it may come to does come.
func TestP1102BinaryOfAll(t *testing.T) {
	times := map[api.Errno]int{}
	for seed := range uint64(40) {
		a, b := pool(seed, 1+int(seed)%9), pool(seed+1000, 1+int(seed)%7)
		sides := fmt.Sprintf("of %s and %s", show(a), show(b))
		for _, m := range matches() {
			for op := api.Add; op <= api.Le; op++ {
				flag := (seed+uint64(op))%3 == 0
				what := fmt.Sprintf("%d by %v, %v, %s", op, m, flag, sides)
				want, wantedErr := wantedBinary(op, m, flag, a, b)
				got, err := join.Binary(op, m, flag, a, b)
				if wantedErr != api.OK {
					times[err]++
					wantErr(t, what, got, err, wantedErr)
					continue
				}
				times[err] += len(got)
				wantVec(t, what, got, err, want...)
				if !got.Right() {
					t.Errorf("%s: not Right: %s", what, show(got))
				}
			}
		}
	}
	if times[api.OK] < 1000 || times[api.ErrMany] < 1000 || times[api.ErrDup] < 1000 {
		t.Errorf("too few of some kind: %v", times)
	}
}

// TestP1102Values: each operator of each two values, of all kinds, a's first whichever side has many.
func TestP1102Values(t *testing.T) {
	for _, x := range numbers() {
		for _, y := range numbers() {
			a, b := vec(point(x, api.Name, "m", "i", "1")), vec(point(y, api.Name, "n", "i", "1"))
			for op := api.Add; op <= api.Le; op++ {
				for _, flag := range []bool{false, true} {
					var want []api.Point
					if v, ok := wantedValue(op, flag, x, y); ok {
						want = []api.Point{point(v, "i", "1")}
					}
					for _, m := range []api.Match{{}, left(api.Group{}), right(api.Group{})} {
						got, err := join.Binary(op, m, flag, a, b)
						wantVec(t, fmt.Sprintf("%v %s %v by %v, %v", x, join.Name(op), y, m, flag), got, err, want...)
					}
				}
			}
		}
	}
}

func TestP1102Outcomes(t *testing.T) {
	a := vec(point(6, "x", "1"), point(8, "x", "2"), point(nan, "x", "3"), point(5, "x", "4"), point(minus, "x", "5"))
	b := vec(point(2, "x", "1"), point(8, "x", "2"), point(1, "x", "3"), point(9, "x", "5"), point(7, "x", "6"))
	for _, c := range []struct {
		op   int
		flag bool
		want []api.Point
	}{
		{api.Add, false, []api.Point{point(8, "x", "1"), point(16, "x", "2"), point(nan, "x", "3"), point(9, "x", "5")}},
		{api.Sub, true, []api.Point{point(4, "x", "1"), point(0, "x", "2"), point(nan, "x", "3"), point(-9, "x", "5")}},
		{api.Mul, false, []api.Point{point(12, "x", "1"), point(64, "x", "2"), point(nan, "x", "3"), point(minus, "x", "5")}},
		{api.Div, true, []api.Point{point(3, "x", "1"), point(1, "x", "2"), point(nan, "x", "3"), point(minus, "x", "5")}},
		{api.Eq, false, []api.Point{point(8, "x", "2")}},
		{api.Eq, true, []api.Point{point(0, "x", "1"), point(1, "x", "2"), point(0, "x", "3"), point(0, "x", "5")}},
		{api.Ne, false, []api.Point{point(6, "x", "1"), point(nan, "x", "3"), point(minus, "x", "5")}},
		{api.Ne, true, []api.Point{point(1, "x", "1"), point(0, "x", "2"), point(1, "x", "3"), point(1, "x", "5")}},
		{api.Gt, false, []api.Point{point(6, "x", "1")}},
		{api.Lt, false, []api.Point{point(minus, "x", "5")}},
		{api.Ge, false, []api.Point{point(6, "x", "1"), point(8, "x", "2")}},
		{api.Le, false, []api.Point{point(8, "x", "2"), point(minus, "x", "5")}},
		{api.Le, true, []api.Point{point(0, "x", "1"), point(1, "x", "2"), point(0, "x", "3"), point(1, "x", "5")}},
	} {
		for _, m := range []api.Match{{}, left(on("x")), right(ignoring("y"))} {
			got, err := join.Binary(c.op, m, c.flag, a, b)
			wantVec(t, fmt.Sprintf("%s by %v, %v", join.Name(c.op), m, c.flag), got, err, c.want...)
		}
	}
}

// TestP1102Many: a side that has one is held to it by all its points, those that meet none and those whose
// outcome is no point too; the other side is not.
func TestP1102Many(t *testing.T) {
	twice := vec(point(1, "c", "1", "x", "1"), point(2, "c", "2", "x", "1"), point(4, "c", "1", "x", "2"))
	once := vec(point(10, "x", "1"), point(20, "x", "3"))
	apart := vec(point(10, "x", "4"))
	x := on("x")
	for _, b := range []vector.Vec{once, apart, nil} {
		for _, op := range []int{api.Add, api.Eq} {
			for _, m := range []api.Match{oneOne(x), right(x), right(x, "c"), oneOne(on()), right(on())} {
				got, err := join.Binary(op, m, false, twice, b)
				wantErr(t, fmt.Sprintf("twice first, by %v", m), got, err, api.ErrMany)
			}
			for _, m := range []api.Match{oneOne(x), left(x), left(x, "c"), oneOne(ignoring("c")), left(ignoring("c"))} {
				got, err := join.Binary(op, m, false, b, twice)
				wantErr(t, fmt.Sprintf("twice second, by %v", m), got, err, api.ErrMany)
			}
		}
	}
	got, err := join.Binary(api.Sub, left(x), false, twice, once)
	wantVec(t, "many, one", got, err, point(-9, "c", "1", "x", "1"), point(-8, "c", "2", "x", "1"))
	got, err = join.Binary(api.Sub, right(x), false, once, twice)
	wantVec(t, "one, many", got, err, point(9, "c", "1", "x", "1"), point(8, "c", "2", "x", "1"))
	got, err = join.Binary(api.Gt, right(x), false, once, twice)
	wantVec(t, "one, many, compared", got, err, point(10, "c", "1", "x", "1"), point(10, "c", "2", "x", "1"))
	got, err = join.Binary(api.Sub, left(x), false, twice, apart)
	wantVec(t, "none meet", got, err)
}

// TestP1102SignsApart: names and values that run together are told apart; the metric's name is held against
// another one only where on asks for it.
func TestP1102SignsApart(t *testing.T) {
	v := vec(point(1, "a", "1b", "b", "2"), point(2, "a", "1", "b", "b2"), point(4, "a", "1:1:b1:2"), point(8, "a", "1", "b", "2"), point(16, "a1", "b", "b", "2"), point(32, "a", "\x00"), point(64, "a", "\xff"), point(128, "a", "1,b"))
	var want []api.Point
	for _, p := range v {
		want = append(want, api.Point{L: p.L, V: 2 * p.V})
	}
	for _, m := range []api.Match{{}, left(ignoring("zz")), right(on("a", "a1", "b"))} {
		got, err := join.Binary(api.Add, m, false, v, v)
		wantVec(t, fmt.Sprintf("by %v", m), got, err, want...)
	}
	a, b := vec(point(1, api.Name, "m", "x", "1")), vec(point(2, api.Name, "n", "x", "1"))
	got, err := join.Binary(api.Add, api.Match{}, false, a, b)
	wantVec(t, "two metrics", got, err, point(3, "x", "1"))
	got, err = join.Binary(api.Add, oneOne(ignoring()), false, a, b)
	wantVec(t, "two metrics, ignoring none", got, err, point(3, "x", "1"))
	got, err = join.Binary(api.Add, oneOne(on("x", api.Name)), false, a, b)
	wantVec(t, "two metrics, on the name", got, err)
	got, err = join.Binary(api.Add, oneOne(on("x", "zz")), false, a, vec(point(2, "x", "1"), point(3, "x", "1", "zz", "1")))
	wantVec(t, "on a name that is not there", got, err, point(3, "x", "1"))
}

func TestP1102Labels(t *testing.T) {
	a := vec(point(1, api.Name, "m", "c", "red", "x", "1", "y", "1"))
	b := vec(point(2, api.Name, "n", "c", "blue", "x", "1", "z", "1"))
	x := on("x")
	for _, c := range []struct {
		m    api.Match
		want []api.Label
	}{
		{oneOne(x), list("x", "1")},
		{oneOne(on()), nil},
		{oneOne(ignoring("c", "y", "z")), list("x", "1")},
		{left(x), list("c", "red", "x", "1", "y", "1")},
		{right(x), list("c", "blue", "x", "1", "z", "1")},
		{left(x, "c"), list("c", "blue", "x", "1", "y", "1")},
		{right(x, "c"), list("c", "red", "x", "1", "z", "1")},
		{left(x, "z", "c"), list("c", "blue", "x", "1", "y", "1", "z", "1")},
		{right(x, "y"), list("c", "blue", "x", "1", "y", "1", "z", "1")},
		{left(x, "y"), list("c", "red", "x", "1")},
		{right(x, "z", "y"), list("c", "blue", "x", "1", "y", "1")},
		{left(x, "zz"), list("c", "red", "x", "1", "y", "1")},
		{left(x, api.Name), list(api.Name, "n", "c", "red", "x", "1", "y", "1")},
		{right(x, "y", api.Name, "c"), list(api.Name, "m", "c", "red", "x", "1", "y", "1", "z", "1")},
		{left(ignoring("c", "y", "z"), "c", "y", "x"), list("c", "blue", "x", "1")},
	} {
		got, err := join.Binary(api.Add, c.m, false, a, b)
		wantVec(t, fmt.Sprintf("by %v", c.m), got, err, api.Point{L: c.want, V: 3})
		got, err = join.Binary(api.Lt, c.m, false, a, b)
		wantVec(t, fmt.Sprintf("less by %v", c.m), got, err, api.Point{L: c.want, V: 1})
	}
	named := vec(point(5, api.Name, "m", "c", "green"))
	got, err := join.Binary(api.Eq, oneOne(on(api.Name)), false, vec(point(5, api.Name, "m", "x", "1")), named)
	wantVec(t, "on the name", got, err, point(5, api.Name, "m"))
	got, err = join.Binary(api.Add, left(on(api.Name)), false, named, named)
	wantVec(t, "many on the name", got, err, point(10, "c", "green"))
	got, err = join.Binary(api.Add, left(on("c"), api.Name), false, named, vec(point(2, "c", "green")))
	wantVec(t, "a name that the other side lacks", got, err, point(7, "c", "green"))
}

// TestP1102LabelsFull: of labels as many as may be none is added, but where one went ahead of it.
func TestP1102LabelsFull(t *testing.T) {
	names := many(api.MaxNames)
	a, b := vec(api.Point{L: full(names...), V: 1}), vec(point(2, "n31", "w", "x", "1", "y", "2"))
	last := append(full(names[:31]...), list("n31", "w")...)
	for _, c := range []struct {
		include []string
		want    []api.Label
	}{
		{nil, full(names...)},
		{[]string{"x"}, full(names...)},
		{[]string{"n31"}, last},
		{[]string{"x", "n31", "y"}, last},
		{[]string{"n00", "x"}, append(slices.Clone(last[1:31]), list("n31", strings.Repeat("v", api.MaxValue), "x", "1")...)},
		{[]string{"x", "n00", "y"}, append(full(names[1:]...), list("y", "2")...)},
		{[]string{"x", "n00"}, full(names[1:]...)},
		{[]string{"y", "n00", "n01", "y0"}, full(names[2:]...)},
		{[]string{"n00", "y", "x"}, append(full(names[1:]...), list("y", "2")...)},
	} {
		got, err := join.Binary(api.Add, left(on(), c.include...), false, a, b)
		wantVec(t, fmt.Sprintf("%q", c.include), got, err, api.Point{L: c.want, V: 3})
		got, err = join.Binary(api.Add, right(on(), c.include...), false, b, a)
		wantVec(t, fmt.Sprintf("%q, the other way", c.include), got, err, api.Point{L: c.want, V: 3})
	}
	named := vec(api.Point{L: append(list(api.Name, "m"), full(names[1:]...)...), V: 1})
	got, err := join.Binary(api.Add, left(on(), "x"), false, named, b)
	wantVec(t, "room of the metric's name", got, err, api.Point{L: append(full(names[1:]...), list("x", "1")...), V: 3})
	got, err = join.Binary(api.Add, oneOne(on(names...)), false, a, a)
	wantVec(t, "on all", got, err, api.Point{L: full(names...), V: 2})
}

func TestP1102Dup(t *testing.T) {
	a := vec(point(1, "c", "1", "x", "1"), point(5, "c", "2", "x", "1"), point(7, api.Name, "m", "x", "2"), point(8, api.Name, "n", "x", "2"))
	b := vec(point(3, "x", "1"), point(3, "c", "9", "x", "3"))
	x := on("x")
	got, err := join.Binary(api.Add, left(x, "c"), false, a, b)
	wantErr(t, "what told them apart is taken", got, err, api.ErrDup)
	got, err = join.Binary(api.Add, right(x, "c"), false, b, a)
	wantErr(t, "so the other way", got, err, api.ErrDup)
	got, err = join.Binary(api.Gt, left(x, "c"), true, a, b)
	wantErr(t, "compared with flag", got, err, api.ErrDup)
	got, err = join.Binary(api.Ne, left(x, "c"), false, a, b)
	wantErr(t, "both hold", got, err, api.ErrDup)
	got, err = join.Binary(api.Gt, left(x, "c"), false, a, b)
	wantVec(t, "one holds", got, err, point(5, "x", "1"))
	two := vec(point(2, "x", "2"))
	got, err = join.Binary(api.Sub, left(x), false, a, two)
	wantErr(t, "told apart by the metric's name alone", got, err, api.ErrDup)
	got, err = join.Binary(api.Gt, left(x), false, a, vec(point(7, "x", "2")))
	wantVec(t, "one of two metrics holds", got, err, point(8, "x", "2"))
	got, err = join.Binary(api.Sub, left(api.Group{}, api.Name), false, a, two)
	wantErr(t, "both without the name that the other lacks", got, err, api.ErrDup)
}

// strangers are numbers of no operator.
func strangers() []int {
	return []int{math.MinInt, -1, 0, 15, 16, 1 << 32, 1<<32 + 1, 1<<32 + 11, math.MaxInt}
}

// TestP1102ErrorsInOrder: ErrArg ahead of ErrMany, that ahead of ErrDup.
func TestP1102ErrorsInOrder(t *testing.T) {
	a := vec(point(1, "c", "1", "x", "1"), point(5, "c", "2", "x", "1"))
	b := vec(point(3, "x", "1"), point(3, "c", "8", "x", "3"), point(4, "c", "9", "x", "3"))
	m := left(on("x"), "c")
	for _, op := range append(strangers(), api.And, api.Or, api.Less, api.Deft) {
		for _, flag := range []bool{false, true} {
			for _, m := range []api.Match{{}, m, {Card: 3}} {
				got, err := join.Binary(op, m, flag, a, b)
				wantErr(t, fmt.Sprintf("%d by %v", op, m), got, err, api.ErrArg)
				got, err = join.Binary(op, m, flag, nil, nil)
				wantErr(t, fmt.Sprintf("%d of none by %v", op, m), got, err, api.ErrArg)
			}
		}
	}
	got, err := join.Binary(api.Add, left(on("x"), "x"), false, a, b)
	wantErr(t, "a match that may not be", got, err, api.ErrArg)
	got, err = join.Binary(api.Add, m, false, a, b)
	wantErr(t, "many, and dup", got, err, api.ErrMany)
	got, err = join.Binary(api.Add, m, false, a, b[:2])
	wantErr(t, "many", got, err, api.ErrMany)
	got, err = join.Binary(api.Add, m, false, a, b[1:])
	wantErr(t, "dup", got, err, api.ErrDup)
}

// TestP1103SetOfAll: each operator, by many groups, of many vectors.
func TestP1103SetOfAll(t *testing.T) {
	for seed := range uint64(60) {
		a, b := pool(seed, 1+int(seed)%8), pool(seed+1000, 1+int(seed)%5)
		for i, sides := range [][2]vector.Vec{{a, b}, {b, a}, {a, a}, {a, nil}, {nil, b}, {nil, {}}} {
			for _, g := range groups() {
				for op := api.And; op <= api.Deft; op++ {
					what := fmt.Sprintf("%s by %v, seed %d, sides %d", join.Name(op), g, seed, i)
					got, err := join.Set(op, g, sides[0], sides[1])
					wantVec(t, what, got, err, wantedSet(op, g, sides[0], sides[1])...)
					if !got.Right() {
						t.Errorf("%s: not Right: %s", what, show(got))
					}
				}
			}
		}
	}
}

func TestP1103Set(t *testing.T) {
	a := vec(point(1, api.Name, "m", "x", "1"), point(nan, api.Name, "m", "x", "2"), point(odd, api.Name, "m", "c", "1", "x", "2"))
	b := vec(point(4, api.Name, "n", "x", "2"), point(stale, api.Name, "n", "x", "3"), point(6, api.Name, "o", "x", "3"))
	for _, c := range []struct {
		op   int
		g    api.Group
		want []api.Point
	}{
		{api.And, api.Group{}, []api.Point{a[2]}},
		{api.Less, api.Group{}, []api.Point{a[0], a[1]}},
		{api.Or, api.Group{}, []api.Point{a[0], a[1], a[2], b[1], b[2]}},
		{api.Deft, api.Group{}, []api.Point{a[0], a[1], a[2], b[1], b[2]}},
		{api.And, on("x"), []api.Point{a[0], a[2]}},
		{api.Less, ignoring("c"), []api.Point{a[1]}},
		{api.Or, on(), a},
		{api.And, on(), a},
		{api.Less, on(), nil},
		{api.And, on(api.Name), nil},
		{api.Less, on(api.Name), a},
		{api.Or, on(api.Name), []api.Point{a[0], a[1], a[2], b[0], b[1], b[2]}},
		{api.Deft, on("x", "c"), []api.Point{a[0], a[1], a[2], b[1], b[2]}},
		{api.And, ignoring("x", "c"), a},
	} {
		got, err := join.Set(c.op, c.g, a, b)
		wantVec(t, fmt.Sprintf("%s by %v", join.Name(c.op), c.g), got, err, c.want...)
	}
	// The points of b stand among those of a, in order; of the same labels a's is left.
	got, err := join.Set(api.Or, api.Group{}, vec(point(1, "x", "2"), point(2, "x", "4")), vec(point(3, "x", "1"), point(4, "x", "2"), point(5, "x", "3"), point(6)))
	wantVec(t, "in order", got, err, point(6), point(3, "x", "1"), point(1, "x", "2"), point(5, "x", "3"), point(2, "x", "4"))
}

func TestP1103SetRefuses(t *testing.T) {
	a := pool(3, 2)
	ops := strangers()
	for op := api.Add; op <= api.Le; op++ {
		ops = append(ops, op)
	}
	for _, v := range []vector.Vec{nil, vector.Of(1), a} {
		for _, op := range ops {
			for _, g := range append(groups(), api.Group{How: 3}) {
				got, err := join.Set(op, g, v, a)
				wantErr(t, fmt.Sprintf("%d by %v", op, g), got, err, api.ErrArg)
			}
		}
		for _, g := range refusedGroups() {
			for op := api.And; op <= api.Deft; op++ {
				got, err := join.Set(op, g, v, a)
				wantErr(t, fmt.Sprintf("%d by %v", op, g), got, err, api.ErrArg)
			}
		}
	}
	got, err := join.Set(api.Or, on(many(api.MaxNames)...), vector.Of(1), nil)
	wantVec(t, "by as many names as may be", got, err, point(1))
}

func TestP1104Names(t *testing.T) {
	for op, c := range map[int]struct {
		name  string
		level int
	}{
		api.Add: {"+", 5}, api.Sub: {"-", 5}, api.Mul: {"*", 6}, api.Div: {"/", 6},
		api.Eq: {"==", 4}, api.Ne: {"!=", 4}, api.Gt: {">", 4}, api.Lt: {"<", 4}, api.Ge: {">=", 4}, api.Le: {"<=", 4},
		api.And: {"and", 3}, api.Or: {"or", 2}, api.Less: {"unless", 3}, api.Deft: {"default", 1},
	} {
		if s := join.Name(op); s != c.name {
			t.Errorf("Name of %d: %q", op, s)
		}
		if n, ok := join.Named(c.name); n != op || !ok {
			t.Errorf("Named of %q: %d, %v", c.name, n, ok)
		}
		if n := join.Level(op); n != c.level {
			t.Errorf("Level of %s: %d", c.name, n)
		}
		for _, s := range []string{c.name + " ", " " + c.name, c.name + c.name, c.name + "\x00", c.name + "s"} {
			if n, ok := join.Named(s); s != "==" && (n != 0 || ok) {
				t.Errorf("Named of %q: %d, %v", s, n, ok)
			}
		}
	}
	for _, op := range strangers() {
		if s := join.Name(op); s != "" || join.Level(op) != 0 {
			t.Errorf("Name of %d: %q; Level: %d", op, s, join.Level(op))
		}
	}
	for _, s := range []string{"", "=", "!", "=~", "!~", "=>", "<>", "^", "%", "AND", "And", "Or", "o", "an", "deft", "less", "Unless", "bool", "on", "\xff", "1"} {
		if n, ok := join.Named(s); n != 0 || ok {
			t.Errorf("Named of %q: %d, %v", s, n, ok)
		}
	}
}

// TestP1Large: each point is sought, not held against all others.
func TestP1Large(t *testing.T) {
	const n = 1 << 17
	var a, b vector.Vec
	for i := range n {
		a = append(a, point(float64(i), "x", fmt.Sprintf("%06d", i)))
		b = append(b, point(1, "x", fmt.Sprintf("%06d", 2*i)))
	}
	for _, m := range []api.Match{{}, left(on("x"), "y"), right(ignoring("y"))} {
		got, err := join.Binary(api.Add, m, false, a, b)
		if err != api.OK || len(got) != n/2 || got[n/2-1].V != n-1 {
			t.Errorf("by %v: %d points, %v", m, len(got), err)
		}
	}
	for op, want := range map[int]int{api.And: n / 2, api.Less: n / 2, api.Or: n + n/2} {
		if got, err := join.Set(op, api.Group{}, a, b); err != api.OK || len(got) != want {
			t.Errorf("%s: %d points, %v", join.Name(op), len(got), err)
		}
	}
}

// roomy answers a vector with spare room behind its points and behind the labels of each, all of it filled.
func roomy(l ...api.Point) vector.Vec {
	v := slices.Grow(vector.Vec{}, len(l)+3)
	for _, p := range l {
		room := append(slices.Grow([]api.Label{}, len(p.L)+3), p.L...)
		spare := room[len(room):cap(room)]
		for i := range spare {
			spare[i] = api.Label{Name: "spare", Value: "label"}
		}
		v = append(v, api.Point{L: room, V: p.V})
	}
	spare := v[len(v):cap(v)]
	for i := range spare {
		spare[i] = point(77, "spare", "point")
	}
	return v
}

// held is all of v, its spare room too, to be held against what it is later.
func held(v vector.Vec) string {
	s := ""
	for _, p := range v[:cap(v)] {
		s += fmt.Sprintf("%q %X; ", p.L[:cap(p.L)], math.Float64bits(p.V))
	}
	return s
}

// scrawl writes over all of a vector, over its spare room, and over that of its labels.
func scrawl(v vector.Vec) {
	v = v[:cap(v)]
	for i := range v {
		l := v[i].L[:cap(v[i].L)]
		for j := range l {
			l[j] = api.Label{Name: "scrawl", Value: "all"}
		}
		v[i] = point(99, "scrawl", "point")
	}
}

// wantApart asks that no two points of v share memory: what is written to one is not seen in another.
func wantApart(t *testing.T, what string, v vector.Vec) {
	t.Helper()
	for i, p := range v {
		l := p.L[:cap(p.L)]
		for j := range l {
			l[j].Value = fmt.Sprint(i)
		}
	}
	for i, p := range v {
		for _, x := range p.L[:cap(p.L)] {
			if x.Value != fmt.Sprint(i) {
				t.Errorf("%s: points %d and %s share labels", what, i, x.Value)
			}
		}
	}
}

// calls are all operators of two vectors, by many matches and groups.
func calls(a, b vector.Vec) map[string]vector.Vec {
	out := map[string]vector.Vec{}
	for _, op := range []int{api.Sub, api.Ne, api.Le} {
		for i, m := range matches() {
			out[fmt.Sprintf("%d by match %d", op, i)], _ = join.Binary(op, m, false, a, b)
		}
	}
	for op := api.And; op <= api.Deft; op++ {
		for i, g := range groups() {
			out[fmt.Sprintf("%d by group %d", op, i)], _ = join.Set(op, g, a, b)
		}
	}
	return out
}

// TestP2WhatIsHandedInStays: neither a call nor what is written to its answer changes what was handed in, nor
// its spare room; and no two points of an answer share any.
func TestP2WhatIsHandedInStays(t *testing.T) {
	shared := list("a", "1", "b", "2", "c", "3")
	pieces := vector.Vec{{L: shared[:0], V: 1}, {L: shared[:1], V: 2}, {L: shared[:2], V: stale}, {L: shared[:3], V: 4}}
	for _, sides := range [][2]vector.Vec{
		{roomy(), roomy(point(odd))},
		{roomy(pool(6, 1)...), roomy(pool(7, 6)...)},
		{roomy(pool(8, 6)...), roomy(pool(9, 1)...)},
		{roomy(pool(10, 3)...), roomy(pool(11, 9)...)},
		{pieces, roomy(point(3, "a", "1"), point(minus, "a", "1", "b", "2"))},
		{pieces, pieces},
	} {
		a, b := sides[0], sides[1]
		was := held(a) + held(b)
		for what, got := range calls(a, b) {
			if held(a)+held(b) != was {
				t.Fatalf("%s: changed: %s %s instead of %s", what, held(a), held(b), was)
			}
			wantApart(t, what, got)
			scrawl(got)
			if held(a)+held(b) != was {
				t.Fatalf("%s: shared: %s %s instead of %s", what, held(a), held(b), was)
			}
		}
		for _, p := range a {
			for _, g := range groups() {
				l := join.Sign(p.L, g)
				scrawl(vector.Vec{{L: l}})
				if held(a)+held(b) != was {
					t.Fatalf("Sign by %v: shared: %s", g, held(a))
				}
			}
		}
	}
}

func TestP2NamesStay(t *testing.T) {
	names := append(make([]string, 0, 5), "b", "a", "z")
	include := append(make([]string, 0, 4), "y", "c")
	was := fmt.Sprint(names[:cap(names)], include[:cap(include)])
	for _, how := range []int{0, api.By, api.Without, 3} {
		g := api.Group{How: how, Names: names}
		for card := range 4 {
			m := api.Match{G: g, Card: card, Include: include}
			join.Check(m)
			join.Binary(api.Add, m, false, pool(7, 2), pool(8, 9))
		}
		join.Set(api.Or, g, pool(7, 2), pool(8, 2))
		join.Sign(list("a", "1", "c", "2"), g)
	}
	if now := fmt.Sprint(names[:cap(names)], include[:cap(include)]); now != was {
		t.Errorf("names changed: %s instead of %s", now, was)
	}
}

// TestP2AnswersStay: what is written to what was handed in, or to another answer, is not seen in an answer.
func TestP2AnswersStay(t *testing.T) {
	a, b := pool(8, 2), pool(9, 5)
	want := calls(a, b)
	c, d := roomy(a...), roomy(b...)
	got, other := calls(c, d), calls(c, d)
	for _, x := range other {
		scrawl(x)
	}
	scrawl(c)
	scrawl(d)
	for what := range want {
		wantVec(t, what, got[what], api.OK, want[what]...)
	}
}

// TestP3TheSameAgain: the order of a map is not seen, and nothing is kept from call to call.
func TestP3TheSameAgain(t *testing.T) {
	a, b := pool(9, 1), pool(12, 5)
	want := calls(a, b)
	for range 10 {
		for what, got := range calls(a, b) {
			wantVec(t, what, got, api.OK, want[what]...)
		}
	}
}

// TestP8WhatMayNotBe: of points that are no vector no more is promised than an end without a panic, that
// nothing is changed, and nothing beside an error.
func TestP8WhatMayNotBe(t *testing.T) {
	for _, l := range [][]api.Label{
		list("b", "1", "a", "1"),
		list("a", "1", "a", "1"),
		list("a", "", "b", "1"),
		list("", "1"),
		list("1", "\x00"),
		list(api.Name, "m", api.Name, "n"),
		list("a", strings.Repeat("v", api.MaxValue+1)),
		full(many(api.MaxNames + 1)...),
	} {
		p := api.Point{L: l, V: odd}
		for _, sides := range [][2]vector.Vec{
			{roomy(p), roomy(p)},
			{roomy(p, p, point(3)), roomy(point(3), p)},
			{roomy(point(2, "z", "1"), p, point(3), point(3)), roomy(pool(4, 4)...)},
			{roomy(pool(5, 4)...), roomy(p, point(1), p)},
		} {
			was := held(sides[0]) + held(sides[1])
			for _, m := range matches() {
				for op := api.Add; op <= api.Deft; op++ {
					binary, err := join.Binary(op, m, false, sides[0], sides[1])
					set, setErr := join.Set(op, m.G, sides[0], sides[1])
					if err != api.OK && len(binary) != 0 || setErr != api.OK && len(set) != 0 {
						t.Errorf("%d by %v: %s beside %v, %s beside %v", op, m, show(binary), err, show(set), setErr)
					}
					scrawl(binary)
					scrawl(set)
				}
			}
			if now := held(sides[0]) + held(sides[1]); now != was {
				t.Errorf("changed: %s instead of %s", now, was)
			}
		}
	}
}
