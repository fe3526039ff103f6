package store_test

import (
	"math"
	"math/rand"
	"slices"
	"sort"
	"strconv"
	"strings"
	"sync"
	"testing"

	"isobar/api"
	"isobar/fval"
	"isobar/labels"
	"isobar/match"
	"isobar/store"
)

func times(n int, s string) string { return strings.Repeat(s, n) }

// pairs answers labels of names and values in turn.
func pairs(l ...string) []api.Label {
	var all []api.Label
	for i := 0; i < len(l); i += 2 {
		all = append(all, api.Label{Name: l[i], Value: l[i+1]})
	}
	return all
}

// many answers n labels, each of a name of its own, rising.
func many(n int) []api.Label {
	var l []api.Label
	for i := range n {
		l = append(l, api.Label{Name: "a" + times(i, "_"), Value: "1"})
	}
	return l
}

func raw(t int, v float64, l ...string) store.Raw {
	return store.Raw{L: pairs(l...), T: t, V: v}
}

func raws(l ...store.Raw) []store.Raw { return l }

// samples answers samples of times and values in turn.
func samples(l ...float64) []api.Sample {
	var all []api.Sample
	for i := 0; i < len(l); i += 2 {
		all = append(all, api.Sample{T: int(l[i]), V: l[i+1]})
	}
	return all
}

// storeOf answers the store that there must be.
func storeOf(t *testing.T, l ...store.Raw) *store.Store {
	t.Helper()
	s, e := store.New(l...)
	if s == nil || e != api.OK {
		t.Fatalf("New of %v: %v, %v", l, s, e)
	}
	return s
}

// wantRefused holds one that may not be against the error that is asked, of Check and of New.
func wantRefused(t *testing.T, errno api.Errno, r store.Raw) {
	t.Helper()
	if e := store.Check(r); e != errno {
		t.Errorf("Check of %.200v: %v instead of %v", r, e, errno)
	}
	good := raw(1, 1, "a", "1")
	for _, l := range [][]store.Raw{{r}, {good, r}, {r, good}, {good, good, r, good}, {r, r}} {
		if s, e := store.New(l...); s != nil || e != errno {
			t.Errorf("New with %.200v: %v, %v instead of %v", r, s, e, errno)
		}
	}
}

// wantTaken holds one that may be against the one series that it makes.
func wantTaken(t *testing.T, r store.Raw, l []api.Label) {
	t.Helper()
	if e := store.Check(r); e != api.OK {
		t.Errorf("Check of %.200v: %v", r, e)
	}
	wantAll(t, storeOf(t, r), api.Series{L: l, S: []api.Sample{{T: r.T, V: r.V}}})
}

// sameBits tells whether two values are one, the stale one told from other NaNs.
func sameBits(a, b float64) bool { return math.Float64bits(a) == math.Float64bits(b) }

func sameSamples(a, b []api.Sample) bool {
	return slices.EqualFunc(a, b, func(x, y api.Sample) bool { return x.T == y.T && sameBits(x.V, y.V) })
}

// wantAll holds all series of a store against what is asked.
func wantAll(t *testing.T, s *store.Store, want ...api.Series) {
	t.Helper()
	if s.Len() != len(want) {
		t.Fatalf("%d series instead of %d", s.Len(), len(want))
	}
	for i, w := range want {
		x, ok := s.Series(i)
		if !ok || !slices.Equal(x.L, w.L) || !sameSamples(x.S, w.S) {
			t.Errorf("series %d: %v, %v instead of %v", i, x, ok, w)
		}
	}
	wantNoSeries(t, s, len(want), len(want)+1, -1)
}

// wantNoSeries asks all that is asked by number of numbers that no series has.
func wantNoSeries(t *testing.T, s *store.Store, numbers ...int) {
	t.Helper()
	for _, i := range append(numbers, math.MaxInt, math.MinInt, math.MinInt+1, 1<<32, -1<<32) {
		if x, ok := s.Series(i); ok || len(x.L) != 0 || len(x.S) != 0 {
			t.Errorf("Series(%d): %v, %v", i, x, ok)
		}
		if v, ok := s.Last(i, api.MaxTime, math.MaxInt); ok || !sameBits(v, 0) {
			t.Errorf("Last(%d): %v, %v", i, v, ok)
		}
		if l := s.Range(i, math.MinInt, math.MaxInt); len(l) != 0 {
			t.Errorf("Range(%d): %v", i, l)
		}
	}
}

func TestP601CheckNames(t *testing.T) {
	for _, name := range []string{"a", "Z", "_", "a1", "__name__", times(64, "a")} {
		wantTaken(t, raw(1, 2, name, "x"), pairs(name, "x"))
		wantTaken(t, raw(1, 2, name, ""), nil)
	}
	for _, name := range []string{"", "1", "1a", "a-b", "a b", "a.b", "é", "a\x00", times(65, "a"), times(1<<16, "a")} {
		wantRefused(t, api.ErrArg, raw(1, 2, name, "x"))
		wantRefused(t, api.ErrArg, raw(1, 2, name, "")) // a label of an empty value has a name as any
		wantRefused(t, api.ErrArg, raw(1, 2, "a", "x", name, "x"))
	}
	for _, l := range [][]string{{"a", "1", "a", "2"}, {"a", "1", "a", "1"}, {"a", "1", "a", ""}, {"a", "", "a", ""}, {"b", "1", "a", "1", "c", "1", "b", "2"}} {
		wantRefused(t, api.ErrArg, raw(1, 2, l...))
	}
}

func TestP601CheckValues(t *testing.T) {
	for _, value := range []string{"x", "\x00", "\xff", "é", "\"", times(256, "x"), times(128, "é")} {
		wantTaken(t, raw(1, 2, "a", value), pairs("a", value))
	}
	for _, n := range []int{257, 512, 1 << 16} {
		wantRefused(t, api.ErrArg, raw(1, 2, "a", times(n, "x")))
		wantRefused(t, api.ErrArg, raw(1, 2, "b", "1", "a", times(n, "x")))
	}
	for _, v := range []float64{0, math.Copysign(0, -1), 1, -1.5, math.Inf(1), math.Inf(-1), math.MaxFloat64, math.SmallestNonzeroFloat64, fval.Stale()} {
		wantTaken(t, raw(1, v, "a", "1"), pairs("a", "1"))
	}
	if e := store.Check(raw(1, math.NaN(), "a", "1")); e != api.OK {
		t.Errorf("Check of NaN: %v", e)
	}
}

func TestP601CheckHowManyLabels(t *testing.T) {
	for _, n := range []int{0, 1, 31, 32} {
		wantTaken(t, store.Raw{L: many(n), T: 1, V: 2}, many(n))
	}
	for _, n := range []int{33, 34, 1000} {
		wantRefused(t, api.ErrArg, store.Raw{L: many(n), T: 1, V: 2})
	}
	l := many(40)
	for i := range 8 {
		l[i*5].Value = "" // what is left out is not counted
	}
	left := slices.DeleteFunc(slices.Clone(l), func(x api.Label) bool { return x.Value == "" })
	wantTaken(t, store.Raw{L: l, T: 1, V: 2}, left)
	l[0].Value = "1"
	wantRefused(t, api.ErrArg, store.Raw{L: l, T: 1, V: 2})
}

func TestP601CheckTimes(t *testing.T) {
	const most = 1 << 50
	for _, at := range []int{0, 1, -1, most, -most, most - 1, -most + 1, 1 << 49, -1 << 32} {
		wantTaken(t, raw(at, 2, "a", "1"), pairs("a", "1"))
		wantTaken(t, raw(at, 2), nil)
	}
	for _, at := range []int{most + 1, -most - 1, most + 2, 1 << 51, -1 << 51, 1<<62 + 1, math.MaxInt, math.MinInt, math.MinInt + 1} {
		wantRefused(t, api.ErrArg, raw(at, 2, "a", "1"))
		wantRefused(t, api.ErrArg, raw(at, 2))
		wantRefused(t, api.ErrArg, raw(at, 2, "1", "1"))
	}
}

func TestP601NewOfNothing(t *testing.T) {
	for _, s := range []*store.Store{storeOf(t), storeOf(t, nil...), storeOf(t, []store.Raw{}...), new(store.Store)} {
		wantAll(t, s)
		wantNoSeries(t, s, 0)
		if len(s.Select(setOf(t))) != 0 || len(s.Select(setOf(t, eq("a", "1")))) != 0 || len(s.Values("a")) != 0 || len(s.Values("")) != 0 {
			t.Error("a store of nothing has something")
		}
	}
}

// A list of labels is a series, however it was told; one of none is a series too.
func TestP601NewSeries(t *testing.T) {
	s := storeOf(t,
		raw(1, 1, "b", "2", "a", "1"), raw(2, 2, "a", "1", "b", "2"), raw(3, 3, "c", "", "a", "1", "b", "2"), raw(4, 4, "b", "2", "d", "", "a", "1", "c", ""),
		raw(1, 5), raw(2, 6, "a", ""), raw(3, 7, "c", "", "b", ""),
		raw(1, 8, "a", "1"), raw(1, 9, "b", "2"), raw(1, 10, "a", "1", "b", "2", "c", "3"), raw(1, 11, "a", "2", "b", "1"),
	)
	wantAll(t, s,
		api.Series{S: samples(1, 5, 2, 6, 3, 7)},
		api.Series{L: pairs("a", "1"), S: samples(1, 8)},
		api.Series{L: pairs("a", "1", "b", "2"), S: samples(1, 1, 2, 2, 3, 3, 4, 4)},
		api.Series{L: pairs("a", "1", "b", "2", "c", "3"), S: samples(1, 10)},
		api.Series{L: pairs("a", "2", "b", "1"), S: samples(1, 11)},
		api.Series{L: pairs("b", "2"), S: samples(1, 9)},
	)
}

// Series stand by names, then by values, by bytes: not by their lengths, nor as numbers, nor in the order of l.
func TestP601NewOrder(t *testing.T) {
	rising := [][]api.Label{
		nil, pairs("A", "2"), pairs("A", "2", "B", "1"), pairs("Z", "9"), pairs(api.Name, "up"), pairs(api.Name, "up", "a", "1"), pairs("a", "\x00"), pairs("a", "1"), pairs("a", "1", "aa", "1"), pairs("a", "1", "b", "1"), pairs("a", "10"), pairs("a", "10", "b", "0"),
		pairs("a", "9"), pairs("a", "B"), pairs("a", "a"), pairs("a", "aa"), pairs("a", "é"), pairs("a", "\xff"), pairs("a_", "1"), pairs("aa", "1"), pairs("ab", "0"), pairs("b", "0"),
	}
	if !slices.IsSortedFunc(rising, labels.Compare) {
		t.Fatal("the lists do not rise")
	}
	r := rand.New(rand.NewSource(601))
	for range 50 {
		var l []store.Raw
		var want []api.Series
		for i, x := range rising {
			l = append(l, store.Raw{L: x, T: i, V: float64(i)})
			want = append(want, api.Series{L: x, S: []api.Sample{{T: i, V: float64(i)}}})
		}
		r.Shuffle(len(l), func(i, j int) { l[i], l[j] = l[j], l[i] })
		wantAll(t, storeOf(t, l...), want...)
	}
}

// No two lists are taken for one, though their texts, laid end to end, are the same.
func TestP601NewTellsSeriesApart(t *testing.T) {
	s := storeOf(t, raw(1, 1, "a", "b", "c", "d"), raw(1, 2, "a", "bcd"), raw(1, 3, "ab", "cd"), raw(1, 4, "abc", "d"), raw(1, 5, "a", "b1:c", "d", "1"), raw(1, 6, "a", "b", "c", "1", "d", "1"), raw(1, 7, "a", `b",c="d`), raw(1, 8, "a", "b\x00c\x00d"), raw(1, 9, "a", "b,c=d"), raw(1, 10, "a", "b1:c1:d"))
	if s.Len() != 10 {
		t.Errorf("%d series", s.Len())
	}
}

func TestP601NewTimes(t *testing.T) {
	for _, c := range []struct{ came, want []api.Sample }{
		{samples(1, 1, 2, 2, 3, 3), samples(1, 1, 2, 2, 3, 3)},
		{samples(3, 1, 2, 2, 1, 3), samples(1, 3, 2, 2, 3, 1)},
		{samples(2, 1, -5, 2, 0, 3, -7, 4, 9, 5), samples(-7, 4, -5, 2, 0, 3, 2, 1, 9, 5)},
		{samples(1, 1, 1, 2), samples(1, 2)},
		{samples(1, 2, 1, 1), samples(1, 1)},
		{samples(1, 1, 1, 2, 1, 3, 1, 2.5), samples(1, 2.5)},
		{samples(5, 1, 3, 1, 5, 2, 3, 2, 4, 1, 5, 3), samples(3, 2, 4, 1, 5, 3)},
		{samples(3, 1, 5, 1, 4, 1, 3, 2), samples(3, 2, 4, 1, 5, 1)},
		{samples(api.MaxTime, 1, -api.MaxTime, 2, 0, 3), samples(-api.MaxTime, 2, 0, 3, api.MaxTime, 1)},
		{samples(1, math.Inf(1), 1, 0, 2, 7, 1, math.Copysign(0, -1)), samples(1, math.Copysign(0, -1), 2, 7)},
		{samples(1, 5, 1, fval.Stale(), 2, fval.Stale(), 2, 5), samples(1, fval.Stale(), 2, 5)},
	} {
		var l, both []store.Raw
		for _, x := range c.came {
			l = append(l, raw(x.T, x.V, "a", "1"))
			both = append(both, raw(x.T, x.V+1, "a", "2"), raw(x.T, x.V, "a", "1"))
		}
		wantAll(t, storeOf(t, l...), api.Series{L: pairs("a", "1"), S: c.want})
		x, _ := storeOf(t, both...).Series(0)
		if !sameSamples(x.S, c.want) {
			t.Errorf("%v among others: %v", c.came, x.S)
		}
	}
}

// Of many of one time the last in l counts, whichever way they came.
func TestP601NewLastCounts(t *testing.T) {
	r := rand.New(rand.NewSource(6011))
	for range 100 {
		var l []store.Raw
		last := map[int]float64{}
		for i := range 1 + r.Intn(300) {
			at := r.Intn(20) - 10
			l = append(l, raw(at, float64(i), "a", "1"))
			last[at] = float64(i)
		}
		var want []api.Sample
		for at := -10; at < 10; at++ {
			if v, ok := last[at]; ok {
				want = append(want, api.Sample{T: at, V: v})
			}
		}
		wantAll(t, storeOf(t, l...), api.Series{L: pairs("a", "1"), S: want})
	}
}

func TestP601NewValuesAreCanon(t *testing.T) {
	const stale, canon = 0x7FF0000000000002, 0x7FF8000000000001
	for from, to := range map[uint64]uint64{
		canon: canon, stale: stale,
		0x7FF8000000000000: canon, 0x7FF8000000000002: canon, 0x7FF0000000000001: canon, 0x7FF0000000000003: canon, 0xFFF0000000000002: canon, 0xFFF8000000000001: canon, 0xFFFFFFFFFFFFFFFF: canon, 0x7FFFFFFFFFFFFFFF: canon,
		0: 0, 1 << 63: 1 << 63, 0x7FF0000000000000: 0x7FF0000000000000, 0xFFF0000000000000: 0xFFF0000000000000, 2: 2, 1: 1, 0x3FF0000000000000: 0x3FF0000000000000, 0x7FEFFFFFFFFFFFFF: 0x7FEFFFFFFFFFFFFF,
	} {
		s := storeOf(t, raw(5, math.Float64frombits(from), "a", "1"))
		wantAll(t, s, api.Series{L: pairs("a", "1"), S: []api.Sample{{T: 5, V: math.Float64frombits(to)}}})
		l := s.Range(0, 4, 5)
		v, ok := s.Last(0, 5, 1)
		if to == stale {
			if len(l) != 0 || ok || !sameBits(v, 0) {
				t.Errorf("the stale value: %v, %v, %v", l, v, ok)
			}
		} else if len(l) != 1 || l[0].T != 5 || math.Float64bits(l[0].V) != to || !ok || math.Float64bits(v) != to {
			t.Errorf("%x: %v, %v, %v", from, l, v, ok)
		}
	}
}

func eq(name, value string) api.Matcher {
	return api.Matcher{Kind: api.Equal, Name: name, Value: value}
}

func ne(name, value string) api.Matcher {
	return api.Matcher{Kind: api.NotEqual, Name: name, Value: value}
}

func like(name, value string) api.Matcher {
	return api.Matcher{Kind: api.Like, Name: name, Value: value}
}

func notLike(name, value string) api.Matcher {
	return api.Matcher{Kind: api.NotLike, Name: name, Value: value}
}

// setOf answers the set of matchers that must be one.
func setOf(t *testing.T, l ...api.Matcher) *match.Set {
	t.Helper()
	m, e := match.New(l...)
	if e != api.OK {
		t.Fatalf("match.New of %v: %v", l, e)
	}
	return m
}

func TestP602Select(t *testing.T) {
	s := storeOf(t, // in the order of their numbers
		raw(1, 1),
		raw(1, 1, api.Name, "down", "job", "db"),
		raw(1, 1, api.Name, "up", "job", "db"),
		raw(1, 1, api.Name, "up", "job", "db", "zone", "eu"),
		raw(1, 1, api.Name, "up", "job", "web"),
		raw(1, fval.Stale(), api.Name, "up", "job", "web", "zone", "us"),
		raw(1, 1, "job", "db"),
		raw(1, 1, "zone", "eu"),
	)
	for _, c := range []struct {
		m    []api.Matcher
		want []int
	}{
		{nil, []int{0, 1, 2, 3, 4, 5, 6, 7}},
		{[]api.Matcher{eq(api.Name, "up")}, []int{2, 3, 4, 5}},
		{[]api.Matcher{eq(api.Name, "down")}, []int{1}},
		{[]api.Matcher{eq(api.Name, "none")}, nil},
		{[]api.Matcher{eq(api.Name, "")}, []int{0, 6, 7}},
		{[]api.Matcher{eq("other", "")}, []int{0, 1, 2, 3, 4, 5, 6, 7}},
		{[]api.Matcher{eq("other", "1")}, nil},
		{[]api.Matcher{eq("job", "up")}, nil},
		{[]api.Matcher{ne("job", "db")}, []int{0, 4, 5, 7}},
		{[]api.Matcher{ne("job", "")}, []int{1, 2, 3, 4, 5, 6}},
		{[]api.Matcher{ne("other", "")}, nil},
		{[]api.Matcher{like("job", "d.*")}, []int{1, 2, 3, 6}},
		{[]api.Matcher{like("job", "d")}, nil},
		{[]api.Matcher{like("job", "db|web")}, []int{1, 2, 3, 4, 5, 6}},
		{[]api.Matcher{like("job", ".*")}, []int{0, 1, 2, 3, 4, 5, 6, 7}},
		{[]api.Matcher{like("zone", "eu|")}, []int{0, 1, 2, 3, 4, 6, 7}},
		{[]api.Matcher{notLike("job", "d.*")}, []int{0, 4, 5, 7}},
		{[]api.Matcher{notLike("zone", ".*")}, nil},
		{[]api.Matcher{notLike("zone", ".+")}, []int{0, 1, 2, 4, 6}},
		{[]api.Matcher{eq(api.Name, "up"), eq("job", "db")}, []int{2, 3}},
		{[]api.Matcher{eq("job", "db"), eq(api.Name, "up")}, []int{2, 3}},
		{[]api.Matcher{eq("zone", "eu"), eq(api.Name, "up")}, []int{3}},
		{[]api.Matcher{eq(api.Name, "up"), eq("zone", "eu")}, []int{3}},
		{[]api.Matcher{eq(api.Name, "up"), eq("zone", "")}, []int{2, 4}},
		{[]api.Matcher{eq("zone", ""), eq("job", ""), eq(api.Name, "")}, []int{0}},
		{[]api.Matcher{eq("job", "db"), eq("job", "web")}, nil},
		{[]api.Matcher{eq("job", "db"), eq("job", "db"), ne("job", "web")}, []int{1, 2, 3, 6}},
		{[]api.Matcher{eq("job", "none"), eq(api.Name, "up")}, nil},
		{[]api.Matcher{eq(api.Name, "up"), eq("job", "none")}, nil},
		{[]api.Matcher{eq("other", "1"), eq("job", "db")}, nil},
		{[]api.Matcher{like(api.Name, "up"), ne("zone", ""), notLike("job", "d.")}, []int{5}},
	} {
		if got := s.Select(setOf(t, c.m...)); !slices.Equal(got, c.want) {
			t.Errorf("Select of %v: %v instead of %v", c.m, got, c.want)
		}
	}
	if got := s.Select(new(match.Set)); len(got) != 8 {
		t.Errorf("Select of no matchers: %v", got)
	}
}

func TestP602SelectRises(t *testing.T) {
	var l []store.Raw
	for i := range 1000 {
		l = append(l, raw(1, 1, "a", strconv.Itoa(i), "b", "x"))
	}
	s := storeOf(t, l...)
	for range 5 {
		for _, m := range []api.Matcher{eq("b", "x"), like("a", ".*"), ne("a", "")} {
			got := s.Select(setOf(t, m))
			if len(got) != 1000 || !slices.IsSorted(got) || got[999] != 999 {
				t.Errorf("Select of %v: %v", m, got)
			}
		}
	}
}

func TestP602Last(t *testing.T) {
	s := storeOf(t, raw(10, 1, "a", "1"), raw(20, 2, "a", "1"), raw(30, fval.Stale(), "a", "1"), raw(40, math.NaN(), "a", "1"), raw(50, math.Copysign(0, -1), "a", "1"), raw(7, 99, "a", "2"))
	for _, c := range []struct {
		at, back int
		v        float64
		ok       bool
	}{
		{9, 1, 0, false}, {9, 100, 0, false}, {10, 1, 1, true}, {11, 1, 0, false}, {11, 2, 1, true}, {19, 9, 0, false}, {19, 10, 1, true}, {19, 1000, 1, true},
		{20, 1, 2, true}, {20, 11, 2, true}, {29, 9, 0, false}, {29, 10, 2, true},
		{30, 1, 0, false}, {30, 100, 0, false}, {39, 100, 0, false}, {35, 5, 0, false}, {35, 6, 0, false}, {39, math.MaxInt, 0, false},
		{40, 1, math.Float64frombits(0x7FF8000000000001), true}, {49, 10, math.Float64frombits(0x7FF8000000000001), true}, {49, 9, 0, false},
		{50, 1, math.Copysign(0, -1), true}, {1000, 950, 0, false}, {1000, 951, math.Copysign(0, -1), true}, {api.MaxTime, api.MaxTime, math.Copysign(0, -1), true}, {api.MaxTime, api.MaxTime - 50, 0, false}, {api.MaxTime, api.MaxTime - 49, math.Copysign(0, -1), true},
		{20, 0, 0, false}, {20, -1, 0, false}, {20, -100, 0, false}, {20, math.MinInt, 0, false}, {50, math.MinInt + 1, 0, false}, {-20, math.MinInt, 0, false}, {math.MinInt, math.MinInt, 0, false}, {math.MaxInt, math.MinInt, 0, false}, {-1, math.MinInt, 0, false},
		{20, math.MaxInt, 2, true}, {0, math.MaxInt, 0, false}, {-1, math.MaxInt, 0, false}, {-2, math.MaxInt, 0, false}, {math.MinInt, math.MaxInt, 0, false}, {math.MinInt, 1, 0, false},
		{math.MaxInt, 1, 0, false}, {math.MaxInt, math.MaxInt, math.Copysign(0, -1), true}, {math.MaxInt, math.MaxInt - 49, math.Copysign(0, -1), true}, {math.MaxInt, math.MaxInt - 50, 0, false}, {math.MaxInt - 1, math.MaxInt, math.Copysign(0, -1), true},
	} {
		if v, ok := s.Last(0, c.at, c.back); !sameBits(v, c.v) || ok != c.ok {
			t.Errorf("Last at %d, back %d: %v, %v instead of %v, %v", c.at, c.back, v, ok, c.v, c.ok)
		}
	}
	if v, ok := s.Last(1, 10, 100); v != 99 || !ok {
		t.Errorf("Last of another series: %v, %v", v, ok)
	}
	wantNoSeries(t, s, 2, 3, -1)
}

// Times at the bound, and what is asked beyond it: no number runs over.
func TestP602LastAtTheBound(t *testing.T) {
	low, high := -api.MaxTime, api.MaxTime
	s := storeOf(t, raw(low, 1, "a", "1"), raw(high, 2, "a", "2"))
	for _, c := range []struct {
		i, at, back int
		v           float64
		ok          bool
	}{
		{0, low, 1, 1, true}, {0, low, math.MaxInt, 1, true}, {0, low - 1, math.MaxInt, 0, false}, {0, low + 1, 1, 0, false}, {0, low + 1, 2, 1, true}, {0, 0, high, 0, false}, {0, 0, high + 1, 1, true}, {0, high, 2 * high, 0, false}, {0, high, 2*high + 1, 1, true},
		{0, math.MaxInt, math.MaxInt, 0, false}, {0, math.MaxInt + low, math.MaxInt, 0, false}, {0, math.MaxInt + low - 1, math.MaxInt, 1, true}, {0, -2, math.MaxInt, 1, true}, {0, -1, math.MaxInt, 1, true}, {0, 0, math.MaxInt, 1, true},
		{1, high, 1, 2, true}, {1, high - 1, math.MaxInt, 0, false}, {1, high + 1, 1, 0, false}, {1, high + 1, 2, 2, true}, {1, math.MaxInt, math.MaxInt - high, 0, false}, {1, math.MaxInt, math.MaxInt - high + 1, 2, true}, {1, math.MaxInt, math.MaxInt, 2, true},
	} {
		if v, ok := s.Last(c.i, c.at, c.back); !sameBits(v, c.v) || ok != c.ok {
			t.Errorf("Last of %d at %d, back %d: %v, %v instead of %v, %v", c.i, c.at, c.back, v, ok, c.v, c.ok)
		}
	}
}

func TestP602Range(t *testing.T) {
	s := storeOf(t, raw(10, 1, "a", "1"), raw(20, 2, "a", "1"), raw(30, fval.Stale(), "a", "1"), raw(40, 4, "a", "1"), raw(50, fval.Stale(), "a", "1"), raw(25, 9, "a", "2"))
	for _, c := range []struct {
		from, to int
		want     []api.Sample
	}{
		{0, 100, samples(10, 1, 20, 2, 40, 4)}, {9, 40, samples(10, 1, 20, 2, 40, 4)}, {10, 40, samples(20, 2, 40, 4)}, {10, 39, samples(20, 2)}, {9, 10, samples(10, 1)}, {10, 11, nil}, {10, 20, samples(20, 2)}, {10, 19, nil}, {19, 20, samples(20, 2)}, {20, 30, nil}, {29, 31, nil}, {30, 50, samples(40, 4)}, {39, 40, samples(40, 4)}, {40, 100, nil}, {45, 50, nil}, {50, 100, nil}, {-100, 9, nil},
		{10, 10, nil}, {20, 20, nil}, {15, 15, nil}, {20, 10, nil}, {40, 10, nil}, {100, 0, nil}, {30, 9, nil},
		{math.MinInt, math.MaxInt, samples(10, 1, 20, 2, 40, 4)}, {math.MinInt, 20, samples(10, 1, 20, 2)}, {20, math.MaxInt, samples(40, 4)}, {math.MaxInt, math.MinInt, nil}, {math.MinInt, math.MinInt, nil}, {math.MaxInt, math.MaxInt, nil}, {math.MaxInt, 20, nil}, {20, math.MinInt, nil}, {-api.MaxTime, api.MaxTime, samples(10, 1, 20, 2, 40, 4)},
	} {
		if got := s.Range(0, c.from, c.to); !sameSamples(got, c.want) {
			t.Errorf("Range from %d to %d: %v instead of %v", c.from, c.to, got, c.want)
		}
	}
	if got := s.Range(1, 0, 100); !sameSamples(got, samples(25, 9)) {
		t.Errorf("Range of another series: %v", got)
	}
	bound := storeOf(t, raw(-api.MaxTime, 1), raw(api.MaxTime, 2))
	for from, want := range map[int][]api.Sample{-api.MaxTime - 1: samples(-api.MaxTime, 1, api.MaxTime, 2), -api.MaxTime: samples(api.MaxTime, 2), api.MaxTime - 1: samples(api.MaxTime, 2), api.MaxTime: nil} {
		if got := bound.Range(0, from, api.MaxTime); !sameSamples(got, want) {
			t.Errorf("Range from %d: %v", from, got)
		}
	}
	wantNoSeries(t, s, 2, 3, -1)
}

func TestP602Values(t *testing.T) {
	s := storeOf(t, raw(1, 1, "a", "9", "b", "x"), raw(1, 1, "a", "10", "b", "x"), raw(2, 1, "a", "10", "b", "x"), raw(1, fval.Stale(), "a", "B"), raw(1, 1, "a", "é"), raw(1, 1, "a", "\x00"), raw(1, 1, "a", ""), raw(1, 1, "c", "", "b", "y"), raw(1, 1, "z", "a"), raw(1, 1, "a", "a", "z", "a"))
	for name, want := range map[string][]string{
		"a": {"\x00", "10", "9", "B", "a", "é"}, "b": {"x", "y"}, "z": {"a"}, "c": nil, "none": nil, "": nil, "1": nil, "x": nil, "A": nil, "\xff": nil, api.Name: nil, times(1<<16, "a"): nil,
	} {
		if got := s.Values(name); !slices.Equal(got, want) {
			t.Errorf("Values of %.20q: %q instead of %q", name, got, want)
		}
	}
}

var (
	someNames    = []string{api.Name, "a", "b"}
	someValues   = []string{"", "", "x", "y", "xy", "10", "9"}
	somePatterns = []string{"", "x", "x|y", ".*", ".+", "x.*", "[0-9]+", "xy?"}
)

func oneOf(r *rand.Rand, l []string) string { return l[r.Intn(len(l))] }

func makeRaws(r *rand.Rand) []store.Raw {
	var l []store.Raw
	for range r.Intn(60) {
		x := store.Raw{T: r.Intn(40) - 20, V: float64(r.Intn(5))}
		if r.Intn(4) == 0 {
			x.V = fval.Stale()
		}
		for _, i := range r.Perm(len(someNames)) {
			x.L = append(x.L, api.Label{Name: someNames[i], Value: oneOf(r, someValues)})
		}
		l = append(l, x)
	}
	return l
}

func makeMatchers(r *rand.Rand) []api.Matcher {
	var l []api.Matcher
	for range r.Intn(4) {
		m := api.Matcher{Kind: 1 + r.Intn(4), Name: oneOf(r, append(someNames, "none")), Value: oneOf(r, someValues)}
		if m.Kind >= api.Like {
			m.Value = oneOf(r, somePatterns)
		}
		l = append(l, m)
	}
	return l
}

// plain says by other means what a store of l is: each list of labels once, each time once.
func plain(l []store.Raw) []api.Series {
	var all []api.Series
	for i := len(l) - 1; i >= 0; i-- { // what comes later counts
		set, _ := labels.Set(l[i].L...)
		at := slices.IndexFunc(all, func(x api.Series) bool { return slices.Equal(x.L, set) })
		if at < 0 {
			at = len(all)
			all = append(all, api.Series{L: set})
		}
		if !slices.ContainsFunc(all[at].S, func(x api.Sample) bool { return x.T == l[i].T }) {
			all[at].S = append(all[at].S, api.Sample{T: l[i].T, V: l[i].V})
		}
	}
	sort.Slice(all, func(i, j int) bool { return labels.Compare(all[i].L, all[j].L) < 0 })
	for _, x := range all {
		sort.Slice(x.S, func(i, j int) bool { return x.S[i].T < x.S[j].T })
	}
	return all
}

func plainLast(l []api.Sample, at, back int) (float64, bool) {
	v, ok := 0.0, false
	for _, x := range l {
		if x.T <= at && x.T > at-back {
			v, ok = x.V, true
		}
	}
	if fval.IsStale(v) {
		return 0, false
	}
	return v, ok
}

func plainRange(l []api.Sample, from, to int) []api.Sample {
	var cut []api.Sample
	for _, x := range l {
		if x.T > from && x.T <= to && !fval.IsStale(x.V) {
			cut = append(cut, x)
		}
	}
	return cut
}

func wantTimes(t *testing.T, s *store.Store, i int, l []api.Sample) {
	t.Helper()
	for at := -23; at < 23; at++ {
		for back := -2; back < 45; back++ {
			v, ok := s.Last(i, at, back)
			if wv, wok := plainLast(l, at, back); !sameBits(v, wv) || ok != wok {
				t.Fatalf("Last of %v at %d, back %d: %v, %v", l, at, back, v, ok)
			}
			if got := s.Range(i, at-back, at); !sameSamples(got, plainRange(l, at-back, at)) {
				t.Fatalf("Range of %v from %d to %d: %v", l, at-back, at, got)
			}
		}
	}
}

func TestP602StoresMade(t *testing.T) {
	r := rand.New(rand.NewSource(602))
	some, all, none := 0, 0, 0
	for range 60 {
		l := makeRaws(r)
		s, want := storeOf(t, l...), plain(l)
		wantAll(t, s, want...)
		for i, x := range want {
			wantTimes(t, s, i, x.S)
		}
		for _, name := range append(someNames, "none") {
			var values []string
			for _, x := range want {
				if value := labels.Get(x.L, name); value != "" {
					values = append(values, value)
				}
			}
			slices.Sort(values)
			if got := s.Values(name); !slices.Equal(got, slices.Compact(values)) {
				t.Errorf("Values of %q: %q", name, got)
			}
		}
		for range 40 {
			m := makeMatchers(r)
			set := setOf(t, m...)
			var numbers []int
			for i, x := range want {
				if set.Match(x.L) {
					numbers = append(numbers, i)
				}
			}
			if got := s.Select(set); !slices.Equal(got, numbers) {
				t.Errorf("Select of %v: %v instead of %v", m, got, numbers)
			}
			switch len(numbers) {
			case 0:
				none++
			case len(want):
				all++
			default:
				some++
			}
		}
	}
	if some < 300 || all < 100 || none < 100 {
		t.Errorf("%d sets matched some, %d all, %d none", some, all, none)
	}
}

// What is handed in, its spare room too, is neither changed nor kept (P2).
func TestP2NothingIsKept(t *testing.T) {
	room := pairs("b", "2", "c", "", "a", "1", "spare", "0")
	roomWas := slices.Clone(room)
	l := append(make([]store.Raw, 0, 8), store.Raw{L: room[:3], T: 2, V: 1}, store.Raw{L: room[:3], T: 1, V: 2}, store.Raw{L: room[:3], T: 2, V: 3})
	was := slices.Clone(l)
	store.Check(l[0])
	s := storeOf(t, l...)
	for i, r := range l[:cap(l)] {
		if i < len(was) && (!slices.Equal(r.L, was[i].L) || r.T != was[i].T || r.V != was[i].V) || i >= len(was) && r.L != nil {
			t.Errorf("handed in, then %v", r)
		}
	}
	if !slices.Equal(room, roomWas) {
		t.Errorf("handed in, then %v", room)
	}
	for i := range room {
		room[i] = api.Label{Name: "scribbled", Value: "over"}
	}
	for i := range l[:cap(l)] {
		l[:cap(l)][i] = raw(9, 9, "scribbled", "over")
	}
	wantAll(t, s, api.Series{L: pairs("a", "1", "b", "2"), S: samples(1, 2, 2, 3)})
}

// What is answered, its spare room too, is nobody else's (P2).
func TestP2NothingIsShared(t *testing.T) {
	s := storeOf(t, raw(1, 1, "a", "1", "b", "x"), raw(2, 2, "a", "1", "b", "x"), raw(2, 3, "a", "1", "b", "x"), raw(3, 4, "a", "1", "b", "x"), raw(1, 5, "a", "2"))
	m := setOf(t, like("a", ".*"))
	check := func() {
		t.Helper()
		wantAll(t, s, api.Series{L: pairs("a", "1", "b", "x"), S: samples(1, 1, 2, 3, 3, 4)}, api.Series{L: pairs("a", "2"), S: samples(1, 5)})
		if !slices.Equal(s.Select(m), []int{0, 1}) || !slices.Equal(s.Select(setOf(t, eq("a", "2"))), []int{1}) || !slices.Equal(s.Values("a"), []string{"1", "2"}) || !sameSamples(s.Range(0, 1, 3), samples(2, 3, 3, 4)) {
			t.Error("the store has changed")
		}
	}
	check()
	for range 2 {
		for i := range 2 {
			x, _ := s.Series(i)
			for j := range x.L[:cap(x.L)] {
				x.L[:cap(x.L)][j] = api.Label{Name: "scribbled", Value: "over"}
			}
			for _, l := range [][]api.Sample{x.S, s.Range(i, 0, 2), s.Range(i, 0, 3), s.Range(i, 1, 2)} {
				for j := range l[:cap(l)] {
					l[:cap(l)][j] = api.Sample{T: 99, V: 99}
				}
			}
		}
		for _, l := range [][]int{s.Select(m), s.Select(setOf(t)), s.Select(setOf(t, eq("a", "1"))), s.Select(setOf(t, eq("a", "2")))} {
			for j := range l[:cap(l)] {
				l[:cap(l)][j] = 99
			}
		}
		values := s.Values("a")
		for j := range values[:cap(values)] {
			values[:cap(values)][j] = "over"
		}
		check()
	}
}

// A store is asked by many at once, and two of the same samples answer the same (P3, P7).
func TestP3AskedByMany(t *testing.T) {
	r := rand.New(rand.NewSource(603))
	l := makeRaws(r)
	s, other, want := storeOf(t, l...), storeOf(t, l...), plain(l)
	m := setOf(t, like("a", "x|y"), ne("b", "x"))
	numbers := other.Select(m)
	wrong := make([]int, 8)
	var group sync.WaitGroup
	for i := range wrong {
		group.Go(func() {
			for range 50 {
				if !slices.Equal(s.Select(m), numbers) || !slices.Equal(s.Values("b"), other.Values("b")) || s.Len() != len(want) {
					wrong[i]++
				}
				for j, x := range want {
					v, ok := s.Last(j, 3, 5)
					wv, wok := plainLast(x.S, 3, 5)
					if got, _ := s.Series(j); !sameSamples(got.S, x.S) || !sameBits(v, wv) || ok != wok || !sameSamples(s.Range(j, -5, 5), plainRange(x.S, -5, 5)) {
						wrong[i]++
					}
				}
			}
		})
	}
	group.Wait()
	for _, n := range wrong {
		if n != 0 {
			t.Errorf("%d answers were wrong", n)
		}
	}
}

// A call that is refused leaves other stores as they were (P5).
func TestP5RefusedChangesNothing(t *testing.T) {
	l := raws(raw(1, 1, "a", "1"), raw(2, 2, "a", "1"), raw(3, 3, "1", ""))
	s := storeOf(t, l[:2]...)
	for range 2 {
		if got, e := store.New(l...); got != nil || e != api.ErrArg {
			t.Errorf("New: %v, %v", got, e)
		}
		wantAll(t, s, api.Series{L: pairs("a", "1"), S: samples(1, 1, 2, 2)})
	}
}

// Stores of many samples and of many series are made, and asked, in their time (P1).
func TestP1ManySamples(t *testing.T) {
	const n = 200000
	var l []store.Raw
	set := pairs(api.Name, "up", "a", "1")
	for i := range n {
		l = append(l, store.Raw{L: set, T: n - i, V: float64(i)}, raw(i%7, float64(i), "a", strconv.Itoa(i%1000), "b", strconv.Itoa(i)))
	}
	s := storeOf(t, l...)
	if s.Len() != n+1 || len(s.Values("b")) != n || len(s.Values("a")) != 1000 {
		t.Fatalf("%d series", s.Len())
	}
	for i := range n {
		if v, ok := s.Last(0, i+1, 1); !ok || v != float64(n-i-1) {
			t.Fatalf("Last at %d: %v, %v", i, v, ok)
		}
		m := setOf(t, eq("b", strconv.Itoa(i)), ne("a", ""))
		if got := s.Select(m); len(got) != 1 {
			t.Fatalf("Select of %d: %v", i, got)
		}
	}
	if got := s.Select(setOf(t, like("a", "9.*"))); len(got) != 111*n/1000 {
		t.Errorf("Select: %d", len(got))
	}
	if got := s.Range(0, 0, n); len(got) != n {
		t.Errorf("Range: %d", len(got))
	}
}
