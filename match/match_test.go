package match_test

import (
	"math/rand"
	"slices"
	"strings"
	"sync"
	"testing"

	"isobar/api"
	"isobar/labels"
	"isobar/match"
	"isobar/regex"
)

var kinds = []int{api.Equal, api.NotEqual, api.Like, api.NotLike}

func times(n int, s string) string { return strings.Repeat(s, n) }

func eq(name, value string) api.Matcher {
	return api.Matcher{Kind: api.Equal, Name: name, Value: value}
}

func ne(name, value string) api.Matcher {
	return api.Matcher{Kind: api.NotEqual, Name: name, Value: value}
}

func like(name, value string) api.Matcher {
	return api.Matcher{Kind: api.Like, Name: name, Value: value}
}

func notLike(name, value string) api.Matcher {
	return api.Matcher{Kind: api.NotLike, Name: name, Value: value}
}

func list(l ...api.Matcher) []api.Matcher { return l }

// many answers n matchers, each of a name of its own.
func many(n int) []api.Matcher {
	var l []api.Matcher
	for i := range n {
		l = append(l, eq("a"+times(i, "_"), "1"))
	}
	return l
}

// pairs answers labels of names and values in turn.
func pairs(l ...string) []api.Label {
	var all []api.Label
	for i := 0; i < len(l); i += 2 {
		all = append(all, api.Label{Name: l[i], Value: l[i+1]})
	}
	return all
}

// setOf answers the set of matchers that must be one.
func setOf(t *testing.T, l ...api.Matcher) *match.Set {
	t.Helper()
	s, e := match.New(l...)
	if s == nil || e != api.OK {
		t.Fatalf("New of %v: %v, %v", l, s, e)
	}
	if e := match.Check(l...); e != api.OK {
		t.Fatalf("Check of %v: %v", l, e)
	}
	return s
}

// wantRefused holds matchers that may not be against the error that is asked, of Check and of New.
func wantRefused(t *testing.T, errno api.Errno, l ...api.Matcher) {
	t.Helper()
	if e := match.Check(l...); e != errno {
		t.Errorf("Check of %v: %v instead of %v", l, e, errno)
	}
	if s, e := match.New(l...); s != nil || e != errno {
		t.Errorf("New of %v: %v, %v instead of %v", l, s, e, errno)
	}
}

// wantMatch holds what matchers say of labels against what is asked.
func wantMatch(t *testing.T, want bool, l []api.Label, m ...api.Matcher) {
	t.Helper()
	s := setOf(t, m...)
	if s.Match(l) != want {
		t.Errorf("%v, %v: %v", m, l, !want)
	}
	if want && s.Never() {
		t.Errorf("%v: Never, and matched %v", m, l)
	}
}

func TestP501CheckKinds(t *testing.T) {
	for kind := -1000; kind <= 1000; kind++ {
		m := api.Matcher{Kind: kind, Name: "a", Value: "x"}
		if slices.Contains(kinds, kind) {
			setOf(t, m)
		} else {
			wantRefused(t, api.ErrArg, m)
		}
	}
	const most = int(^uint(0) >> 1)
	for _, kind := range []int{most, -most - 1, 1 << 32, 1<<32 + 1, 1<<8 + 1, 1<<16 + 2, -1 << 32, -1<<8 + 1} {
		wantRefused(t, api.ErrArg, api.Matcher{Kind: kind, Name: "a", Value: "x"})
	}
	wantRefused(t, api.ErrArg, api.Matcher{})
}

func TestP501CheckNames(t *testing.T) {
	for _, kind := range kinds {
		for _, name := range []string{"a", "Z", "_", "a1", "__name__", "__g0__", "or", times(64, "a")} {
			setOf(t, api.Matcher{Kind: kind, Name: name, Value: "x"})
		}
		for _, name := range []string{"", "1", "1a", "a-b", "a b", " a", "a.b", "a:b", "é", "a\x00", "a\xff", "{", times(65, "a"), times(1<<16, "a")} {
			wantRefused(t, api.ErrArg, api.Matcher{Kind: kind, Name: name, Value: "x"})
		}
		for c := range 256 {
			for _, name := range []string{string([]byte{byte(c)}), "a" + string([]byte{byte(c)})} {
				m := api.Matcher{Kind: kind, Name: name, Value: "x"}
				if labels.Name(name) {
					setOf(t, m)
				} else {
					wantRefused(t, api.ErrArg, m)
				}
			}
		}
	}
}

func TestP501CheckValues(t *testing.T) {
	for _, kind := range kinds {
		for _, n := range []int{0, 1, 255, 256} {
			setOf(t, api.Matcher{Kind: kind, Name: "a", Value: times(n, "x")})
		}
		for _, n := range []int{257, 258, 512, 4096, 4097, 1 << 20} {
			wantRefused(t, api.ErrArg, api.Matcher{Kind: kind, Name: "a", Value: times(n, "x")})
			wantRefused(t, api.ErrArg, api.Matcher{Kind: kind, Name: "a", Value: times(n, "(")})
		}
		setOf(t, api.Matcher{Kind: kind, Name: "a", Value: times(128, "é")})
		wantRefused(t, api.ErrArg, api.Matcher{Kind: kind, Name: "a", Value: times(129, "é")})
	}
	for c := range 256 { // a value of Equal may be any text
		s := string([]byte{byte(c)})
		wantMatch(t, true, pairs("a", s), eq("a", s))
		wantMatch(t, false, pairs("a", s), ne("a", s))
	}
}

func TestP501CheckPatterns(t *testing.T) {
	for _, s := range []string{"", "a", "a|b", ".*", ".+", "(a|b)*c?", "[a-c]", "[^a]", "\\.", "^$", times(40, "(") + times(40, ")"), times(128, "()"), times(256, ".")} {
		for _, kind := range kinds {
			setOf(t, api.Matcher{Kind: kind, Name: "a", Value: s})
		}
	}
	for s, want := range map[string]api.Errno{
		"(": api.ErrForm, ")": api.ErrForm, "*": api.ErrForm, "a**": api.ErrForm, "[": api.ErrForm, "[]": api.ErrForm, "[b-a]": api.ErrForm, "\\": api.ErrForm, "\\d": api.ErrForm, "a|*": api.ErrForm, "]": api.ErrForm,
		times(256, "*"): api.ErrForm, times(40, "("): api.ErrForm,
		times(41, "("): api.ErrLimit, times(41, "(") + times(41, ")"): api.ErrLimit, times(256, "("): api.ErrLimit, "*" + times(41, "("): api.ErrLimit,
	} {
		if _, _, e := regex.Compile(s); e != want {
			t.Fatalf("Compile of %q: %v", s, e)
		}
		wantRefused(t, want, like("a", s))
		wantRefused(t, want, notLike("a", s))
		setOf(t, eq("a", s))
		setOf(t, ne("a", s))
	}
}

// Of one matcher ErrArg is named ahead of the pattern's error (P6).
func TestP501CheckArgAheadOfPattern(t *testing.T) {
	for _, s := range []string{"(", times(41, "(")} {
		for _, kind := range []int{api.Like, api.NotLike} {
			wantRefused(t, api.ErrArg, api.Matcher{Kind: kind, Name: "", Value: s})
			wantRefused(t, api.ErrArg, api.Matcher{Kind: kind, Name: "1", Value: s})
			wantRefused(t, api.ErrArg, api.Matcher{Kind: kind, Name: times(65, "a"), Value: s})
			wantRefused(t, api.ErrArg, api.Matcher{Kind: kind, Name: "a", Value: s + times(257, "x")})
		}
		wantRefused(t, api.ErrArg, api.Matcher{Kind: 5, Name: "a", Value: s})
	}
}

func TestP501CheckFirstOfMany(t *testing.T) {
	good, arg, form, limit := eq("a", "1"), eq("1", "a"), like("a", "("), notLike("a", times(41, "("))
	for _, c := range []struct {
		l    []api.Matcher
		want api.Errno
	}{
		{list(good, arg), api.ErrArg}, {list(good, form), api.ErrForm}, {list(good, limit), api.ErrLimit},
		{list(form, arg), api.ErrForm}, {list(arg, form), api.ErrArg}, {list(limit, form), api.ErrLimit}, {list(form, limit), api.ErrForm},
		{list(limit, arg, form), api.ErrLimit}, {list(good, good, good, form, arg, limit), api.ErrForm}, {list(arg, good), api.ErrArg}, {list(form, good, good), api.ErrForm},
	} {
		wantRefused(t, c.want, c.l...)
	}
}

func TestP501CheckHowMany(t *testing.T) {
	for n := range 33 {
		s := setOf(t, many(n)...)
		if !slices.Equal(s.All(), many(n)) {
			t.Errorf("All of %d", n)
		}
	}
	for _, n := range []int{33, 34, 64, 65, 1000, 100000} {
		l := many(33)
		for len(l) < n {
			l = append(l, eq("a", "1"))
		}
		wantRefused(t, api.ErrArg, l[:n]...)
		// Each one's error is named ahead of there being too many, wherever it stands.
		l[n-1] = like("a", "(")
		wantRefused(t, api.ErrForm, l...)
		l[0] = notLike("a", times(41, "("))
		wantRefused(t, api.ErrLimit, l...)
	}
	var same []api.Matcher
	for range 32 {
		same = append(same, like("a", "x.*"))
	}
	wantMatch(t, true, pairs("a", "xy"), same...)
	wantMatch(t, false, pairs("a", "yx"), same...)
	wantRefused(t, api.ErrArg, append(same, same[0])...)
	wantRefused(t, api.ErrArg, make([]api.Matcher, 33)...)
}

func TestP501NoMatchers(t *testing.T) {
	for _, s := range []*match.Set{setOf(t), setOf(t, nil...), setOf(t, []api.Matcher{}...), new(match.Set)} {
		if !s.Match(nil) || !s.Match(pairs("a", "1")) || len(s.All()) != 0 || s.Never() {
			t.Errorf("a set of no matchers: %v", s.All())
		}
	}
}

func TestP501Match(t *testing.T) {
	l := pairs(api.Name, "up", "job", "db", "zone", "eu-1")
	for _, c := range []struct {
		m    api.Matcher
		want bool
	}{
		{eq("job", "db"), true}, {eq("job", "d"), false}, {eq("job", "dbx"), false}, {eq("job", ""), false}, {eq("job", "DB"), false}, {eq("job", "web"), false}, {eq("job", ".*"), false}, {eq("job", "d."), false},
		{ne("job", "db"), false}, {ne("job", "d"), true}, {ne("job", ""), true}, {ne("job", "dbx"), true}, {ne("job", ".*"), true}, {ne("job", "d."), true},
		{like("job", "db"), true}, {like("job", "d"), false}, {like("job", "b"), false}, {like("job", ""), false}, {like("job", "d."), true}, {like("job", ".*"), true}, {like("job", ".+"), true}, {like("job", "d.*"), true}, {like("job", ".b"), true}, {like("job", "web|db"), true}, {like("job", "web|d"), false}, {like("job", "DB"), false}, {like("job", "dbx?"), true}, {like("job", "dbx"), false},
		{notLike("job", "db"), false}, {notLike("job", "d"), true}, {notLike("job", "b"), true}, {notLike("job", ""), true}, {notLike("job", "d."), false}, {notLike("job", ".*"), false}, {notLike("job", ".+"), false}, {notLike("job", "web|db"), false}, {notLike("job", "web|d"), true},
		{eq(api.Name, "up"), true}, {eq(api.Name, "down"), false}, {like(api.Name, "u."), true}, {notLike(api.Name, "u."), false}, {ne(api.Name, "up"), false}, {ne(api.Name, ""), true},
		{eq("zone", "eu-1"), true}, {like("zone", "eu-[0-9]"), true}, {like("zone", "eu"), false}, {like("zone", "1"), false}, {notLike("zone", "eu-[^1]"), true},
		{eq("jo", "db"), false}, {eq("Job", "db"), false}, {eq("jobs", "db"), false}, {eq("__name_", "up"), false},
	} {
		wantMatch(t, c.want, l, c.m)
	}
}

// A label that is not there has the empty value.
func TestP501MatchWithoutLabel(t *testing.T) {
	for _, l := range [][]api.Label{nil, {}, pairs("a", "1"), pairs("z", "1"), pairs("a", "1", "d", "2", "z", "3"), pairs("cc", "x", "c_", "y")} {
		for _, c := range []struct {
			m    api.Matcher
			want bool
		}{
			{eq("c", ""), true}, {eq("c", "1"), false}, {ne("c", ""), false}, {ne("c", "1"), true},
			{like("c", ""), true}, {like("c", ".*"), true}, {like("c", "a?"), true}, {like("c", "a|"), true}, {like("c", "()"), true}, {like("c", ".+"), false}, {like("c", "a"), false}, {like("c", "."), false},
			{notLike("c", ""), false}, {notLike("c", ".*"), false}, {notLike("c", "a?"), false}, {notLike("c", ".+"), true}, {notLike("c", "a"), true},
			{eq(api.Name, ""), true}, {ne(api.Name, ""), false}, {like(api.Name, ".+"), false},
		} {
			wantMatch(t, c.want, l, c.m)
		}
	}
}

func TestP501MatchAsksEach(t *testing.T) {
	l := pairs("a", "1", "b", "two")
	yes := list(eq("a", "1"), ne("a", "2"), like("b", "t.*"), notLike("b", "t"), eq("c", ""), like("a", "[0-9]"), notLike("c", ".+"), ne("b", ""))
	no := list(eq("a", "2"), ne("a", "1"), like("b", "t"), notLike("b", "t.*"), ne("c", ""), eq("b", ""), like("c", "."), notLike("a", ".*"))
	wantMatch(t, true, l, yes...)
	for _, m := range no {
		for at := range len(yes) + 1 {
			wantMatch(t, false, l, slices.Insert(slices.Clone(yes), at, m)...)
		}
		wantMatch(t, false, l, m)
	}
	wantMatch(t, false, l, no...)
}

// One pattern may stand at many names, and be asked both ways.
func TestP501MatchSharesPatterns(t *testing.T) {
	m := list(like("a", "x+"), notLike("b", "x+"), like("c", "x+"), like("d", "y"), eq("e", "x+"), ne("f", "x+"))
	wantMatch(t, true, pairs("a", "x", "b", "y", "c", "xx", "d", "y", "e", "x+", "f", "x"), m...)
	wantMatch(t, false, pairs("a", "x", "b", "x", "c", "xx", "d", "y", "e", "x+", "f", "x"), m...)
	wantMatch(t, false, pairs("a", "x", "b", "y", "c", "y", "d", "y", "e", "x+", "f", "x"), m...)
	wantMatch(t, false, pairs("a", "x", "b", "y", "c", "xx", "d", "y", "e", "xx", "f", "x"), m...)
	wantMatch(t, false, pairs("a", "x", "b", "y", "c", "xx", "d", "y", "e", "x+", "f", "x+"), m...)
	wantMatch(t, false, pairs("a", "x", "b", "y", "c", "xx", "d", "x", "e", "x+", "f", "x"), m...)
}

func TestP501MatchLongValues(t *testing.T) {
	long := times(256, "x")
	wantMatch(t, true, pairs("a", long), eq("a", long), like("a", long), like("a", "x*"), ne("a", long[1:]), notLike("a", long[1:]))
	wantMatch(t, false, pairs("a", long[1:]), eq("a", long))
	wantMatch(t, false, pairs("a", long+"x"), eq("a", long))
	wantMatch(t, true, pairs("a", times(4096, long)), like("a", "(x|xx)*"))
	wantMatch(t, false, pairs("a", times(4096, long)), like("a", times(60, "x?")+times(60, "x*")+"y"))
}

var (
	somePatterns = []string{"", "a", "b", ".*", ".+", "a|b", "a?", "[^a]", "ab", "a*", "\\.", "\\*", "b.", "."}
	someValues   = []string{"", "a", "b", "ab", "aa", ".", "*", "ba", ".*", "c"}
	someNames    = []string{"a", "b", api.Name}
)

func oneOf(r *rand.Rand, l []string) string { return l[r.Intn(len(l))] }

func makeMatcher(r *rand.Rand) api.Matcher {
	m := api.Matcher{Kind: 1 + r.Intn(4), Name: oneOf(r, someNames), Value: oneOf(r, someValues)}
	if m.Kind >= api.Like {
		m.Value = oneOf(r, somePatterns)
	}
	return m
}

// everyLabels answers all labels of the names that matchers are made of, with the values that they are made of.
func everyLabels() [][]api.Label {
	all := [][]api.Label{nil}
	for _, name := range []string{api.Name, "a", "b"} {
		var longer [][]api.Label
		for _, l := range all {
			for _, value := range someValues {
				with := slices.Clone(l)
				if value != "" {
					with = append(with, api.Label{Name: name, Value: value})
				}
				longer = append(longer, with)
			}
		}
		all = longer
	}
	return all
}

// holds says by other means what a matcher says of labels.
func holds(m api.Matcher, l []api.Label) bool {
	value := ""
	for _, x := range l {
		if x.Name == m.Name {
			value = x.Value
		}
	}
	if m.Kind == api.Equal || m.Kind == api.NotEqual {
		return (value == m.Value) == (m.Kind == api.Equal)
	}
	p, _, _ := regex.Compile(m.Value)
	return p.Match(value) == (m.Kind == api.Like)
}

func TestP501SetsMade(t *testing.T) {
	r := rand.New(rand.NewSource(501))
	all := everyLabels()
	yes, no, never := 0, 0, 0
	for range 600 {
		var m []api.Matcher
		for range r.Intn(6) {
			m = append(m, makeMatcher(r))
		}
		s := setOf(t, m...)
		if s.Never() {
			never++
		}
		for _, l := range all {
			want := true
			for _, x := range m {
				want = want && holds(x, l)
			}
			if s.Match(l) != want {
				t.Fatalf("%v, %v: %v", m, l, !want)
			}
			if want && s.Never() {
				t.Fatalf("%v: Never, and matches %v", m, l)
			}
			if want {
				yes++
			} else {
				no++
			}
		}
	}
	if yes < 1000 || no < 1000 || never < 20 {
		t.Errorf("%d matched, %d did not, %d sets never do", yes, no, never)
	}
}

// Of these no labels match, and one value alone may stand at a name: that is told.
func TestP501Never(t *testing.T) {
	for _, m := range [][]api.Matcher{
		list(eq("a", "1"), eq("a", "2")), list(eq("a", "1"), ne("a", "1")), list(ne("a", "1"), eq("a", "1")), list(eq("a", ""), ne("a", "")), list(eq("a", "1"), eq("a", "")),
		list(eq("a", "x"), like("a", "y.*")), list(like("a", "y.*"), eq("a", "x")), list(eq("a", "x"), notLike("a", ".*")), list(eq("a", ""), like("a", ".+")), list(eq("a", "x"), notLike("a", "x")),
		list(like("a", "x"), like("a", "y")), list(like("a", "x"), eq("a", "y")), list(like("a", "x\\.y"), ne("a", "x.y")), list(like("a", "x"), notLike("a", "x|y")),
		list(eq("b", "1"), like("c", ".*"), eq("a", "1"), eq("b", "1"), ne("c", ""), eq("a", "2")),
	} {
		s := setOf(t, m...)
		if !s.Never() {
			t.Errorf("%v: not Never", m)
		}
		for _, l := range everyLabels() {
			if s.Match(l) {
				t.Errorf("%v matches %v", m, l)
			}
		}
	}
}

// Each of these sets has labels that match.
func TestP501NotNever(t *testing.T) {
	long := times(256, "x")
	for _, c := range []struct {
		l []api.Label
		m []api.Matcher
	}{
		{pairs("a", "1"), list(eq("a", "1"), eq("a", "1"))}, {pairs("a", "1", "b", "2"), list(eq("a", "1"), eq("b", "2"))}, {nil, list(eq("a", ""), eq("b", ""))}, {pairs("b", "1"), list(eq("a", ""), ne("b", ""))},
		{pairs("a", "x.y"), list(like("a", "x\\.y"), eq("a", "x.y"))}, {pairs("a", "xzy"), list(like("a", "x.y"), ne("a", "x.y"))}, {pairs("a", "x.y"), list(eq("a", "x.y"), like("a", "x.y"), notLike("a", "xay"))},
		{pairs("a", "y"), list(like("a", "x|y"), ne("a", "x"))}, {pairs("a", "y"), list(like("a", "x|y"), notLike("a", "x"))}, {nil, list(like("a", "x?"), ne("a", "x"))}, {nil, list(like("a", ""), eq("a", ""))},
		{pairs("a", "z"), list(ne("a", "x"), ne("a", "y"), notLike("a", "x|y"))}, {nil, list(notLike("a", ".+"))}, {pairs("a", "*"), list(eq("a", "*"), like("a", "\\*"))}, {pairs("a", "("), list(eq("a", "("), ne("a", "(("))},
		{pairs("a", "[x]"), list(eq("a", "[x]"), notLike("a", "[x]"))}, {pairs("a", long), list(eq("a", long), like("a", long))}, {pairs("a", times(1000, "x")), list(like("a", times(60, "xxx?")+"x*"), notLike("a", "x?x?x?"))},
	} {
		wantMatch(t, true, c.l, c.m...)
	}
}

func TestP501All(t *testing.T) {
	for _, l := range [][]api.Matcher{
		nil, list(eq("a", "1")), list(notLike("b", ".*"), eq("a", ""), eq("a", ""), like("b", ".*"), ne("a", "x")), list(eq("z", "\x00\xff"), eq("a", "("), eq("m", "\"")), many(32),
	} {
		s := setOf(t, l...)
		for range 2 {
			if !slices.Equal(s.All(), l) {
				t.Errorf("All of %v: %v", l, s.All())
			}
		}
	}
}

// What is handed in is neither changed nor kept, and what is answered is nobody else's (P2).
func TestP501KeepsNothing(t *testing.T) {
	room := list(eq("a", "1"), like("b", "x"), eq("c", "spare"), eq("d", "spare"))
	was := slices.Clone(room)
	s := setOf(t, room[:2]...)
	if !slices.Equal(room, was) {
		t.Errorf("handed in, then %v", room)
	}
	l := pairs("a", "1", "b", "x", "e", "spare")
	labelsWere := slices.Clone(l)
	room[0], room[1] = eq("a", "2"), like("b", "y")
	check := func() {
		t.Helper()
		if !s.Match(l[:2]) || s.Never() || !slices.Equal(s.All(), was[:2]) || !slices.Equal(l, labelsWere) {
			t.Errorf("the set has changed: %v", s.All())
		}
	}
	check()
	all := s.All()
	all[0] = eq("a", "3")
	for i := range all[:cap(all)] {
		all[:cap(all)][i] = ne("z", "")
	}
	check()
	if other := s.All(); len(other) != 2 || &other[0] == &all[0] {
		t.Errorf("All again: %v", other)
	}
}

// One set is asked again and again, and by many at once (P3).
func TestP501MatchAgain(t *testing.T) {
	s := setOf(t, like("a", "(x|yz)*"), notLike("b", "x+"), ne("a", "xx"))
	var group sync.WaitGroup
	wrong := make([]int, 8)
	for i := range wrong {
		group.Go(func() {
			for range 200 {
				for value, want := range map[string]bool{"": true, "x": true, "xx": false, "yz": true, "y": false, "xyzx": true, "zy": false} {
					if s.Match(pairs("a", value)) != want || s.Match(pairs("a", value, "b", "xx")) || s.Never() || len(s.All()) != 3 {
						wrong[i]++
					}
				}
			}
		})
	}
	group.Wait()
	for _, n := range wrong {
		if n != 0 {
			t.Errorf("%d answers were wrong", n)
		}
	}
}

// Sets of the dearest patterns are told in their time.
func TestP501TakesItsTime(t *testing.T) {
	var m []api.Matcher
	for range 16 {
		m = append(m, eq("a", times(256, "x")), like("a", times(127, "x?")+"x*"))
	}
	wantMatch(t, true, pairs("a", times(256, "x")), m...)
	wantMatch(t, false, pairs("a", times(1<<16, "x")), m...)
}

// Labels that are no series' are answered all the same (P1, P8).
func TestP501MatchOddLabels(t *testing.T) {
	s := setOf(t, eq("a", "1"), like("b", "x*"), ne("c", "2"))
	for _, l := range [][]api.Label{pairs("a", "1", "a", "2"), pairs("b", "x", "a", "1"), pairs("", ""), pairs("1", "1", "\xff", "\x00"), pairs("a", times(1<<16, "1")), slices.Repeat(pairs("a", "1"), 1000)} {
		s.Match(l)
	}
}

func TestP502Text(t *testing.T) {
	for _, c := range []struct {
		m    api.Matcher
		want string
	}{
		{eq("a", "1"), `a="1"`}, {ne("a", "1"), `a!="1"`}, {like("a", "1"), `a=~"1"`}, {notLike("a", "1"), `a!~"1"`},
		{eq("job", ""), `job=""`}, {ne(api.Name, "up"), `__name__!="up"`}, {like("a", ".*\\.x|[y]"), `a=~".*\\.x|[y]"`}, {notLike("a", "x\""), `a!~"x\""`},
		{eq("a", "x\ny"), `a="x\x0ay"`}, {eq("a", "é\x00\x7f"), `a="\xc3\xa9\x00\x7f"`}, {eq("a", "b c"), `a="b c"`}, {eq("a", "a=\"1\""), `a="a=\"1\""`},
	} {
		if got := match.Text(c.m); got != c.want {
			t.Errorf("Text of %v: %q instead of %q", c.m, got, c.want)
		}
	}
}

func TestP502TextOfEveryByte(t *testing.T) {
	for i, sign := range []string{"=", "!=", "=~", "!~"} {
		for c := range 256 {
			m := api.Matcher{Kind: kinds[i], Name: "a", Value: string([]byte{byte(c), byte(c), 'x'})}
			if got := match.Text(m); got != "a"+sign+labels.Quote(m.Value) {
				t.Errorf("Text of %v: %q", m, got)
			}
		}
	}
}

// Of a Kind that is none there is nothing to tell, whatever else the matcher has.
func TestP502TextOfNoKind(t *testing.T) {
	const most = int(^uint(0) >> 1)
	for _, kind := range []int{0, -1, 5, 6, 100, most, -most - 1, 1<<32 + 1, 1<<8 + 1} {
		for _, m := range []api.Matcher{{Kind: kind}, {Kind: kind, Name: "a", Value: "1"}, {Kind: kind, Name: "a"}} {
			if got := match.Text(m); got != "" {
				t.Errorf("Text of %v: %q", m, got)
			}
		}
	}
}

// Text asks no more of a matcher than its Kind: what Check refuses else is told by the same words.
func TestP502TextOfRefused(t *testing.T) {
	for _, c := range []struct {
		m    api.Matcher
		want string
	}{
		{eq("", ""), `=""`}, {ne("1", "x"), `1!="x"`}, {like("a b", "("), `a b=~"("`}, {notLike("\xff", "*"), "\xff!~\"*\""}, {eq("a", times(257, "x")), `a="` + times(257, "x") + `"`},
	} {
		if got := match.Text(c.m); got != c.want {
			t.Errorf("Text of %v: %q instead of %q", c.m, got, c.want)
		}
	}
}
