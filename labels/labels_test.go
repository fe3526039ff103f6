package labels_test

import (
	"bytes"
	"cmp"
	"fmt"
	"regexp"
	"slices"
	"strconv"
	"strings"
	"testing"

	"isobar/api"
	"isobar/labels"
)

// of makes labels of names and values in turn.
func of(l ...string) []api.Label {
	var out []api.Label
	for i := 0; i < len(l); i += 2 {
		out = append(out, api.Label{Name: l[i], Value: l[i+1]})
	}
	return out
}

// many answers n labels whose names rise, from l00 on.
func many(n int) []api.Label {
	var out []api.Label
	for i := range n {
		out = append(out, api.Label{Name: fmt.Sprintf("l%02d", i), Value: strconv.Itoa(i)})
	}
	return out
}

// long is a text of n letters.
func long(n int) string { return strings.Repeat("x", n) }

// want holds labels against those that are asked.
func want(t *testing.T, what string, got, want []api.Label) {
	t.Helper()
	if !slices.Equal(got, want) {
		t.Errorf("%s: %q instead of %q", what, got, want)
	}
}

func wantSet(t *testing.T, l, want []api.Label, errno api.Errno) {
	t.Helper()
	got, e := labels.Set(l...)
	if !slices.Equal(got, want) || e != errno {
		t.Errorf("Set of %q: %q, %v instead of %q, %v", l, got, e, want, errno)
	}
	if e == api.OK && !labels.Right(got) {
		t.Errorf("Set of %q is not right", l)
	}
}

// wrongNames may be no label's.
func wrongNames() []string {
	return []string{"", "1", "0a", "9_", "a-b", "a b", " a", "a ", "a.b", "a:b", ":", "-", "a\x00", "\x00", "a\n", "é", "aé", "a\xff", "\xff", "a\"", long(65), long(64) + "-", long(1 << 16)}
}

func TestP301Name(t *testing.T) {
	for _, s := range []string{"a", "z", "A", "Z", "_", "__", "a1", "_1", "Z9", "a_b_2", "__name__", "aZ09_", long(63), long(64), "_" + strings.Repeat("9", 63)} {
		if !labels.Name(s) {
			t.Errorf("%q is a name", s)
		}
	}
	for _, s := range wrongNames() {
		if labels.Name(s) {
			t.Errorf("%q is no name", s)
		}
	}
}

func TestP301NameOfEveryByte(t *testing.T) {
	const letters = "ABCDEFGHIJKLMNOPQRSTUVWXYZabcdefghijklmnopqrstuvwxyz_"
	for c := range 256 {
		s := string([]byte{byte(c)})
		first, behind := strings.Contains(letters, s), strings.Contains(letters+"0123456789", s)
		if labels.Name(s) != first || labels.Name(s+"a") != first {
			t.Errorf("%q ahead: %v", s, !first)
		}
		if labels.Name("a"+s) != behind || labels.Name("_"+s+"b") != behind || labels.Name(long(63)+s) != behind {
			t.Errorf("%q behind: %v", s, !behind)
		}
	}
}

func TestP301Right(t *testing.T) {
	for _, l := range [][]api.Label{
		nil, {}, of("a", "1"), of("a", "1", "b", "1"), of("A", "1", "__name__", "m", "a", "2"), of("a", "1", "a0", "1", "aa", "1"), of("Z", "1", "a", "1"),
		of("B", "1", "_", "1", "b", "1"), of("a", "\x00\xff \n"), of("a", long(255)), of("a", long(256)), of(long(64), "1"), many(31), many(32),
	} {
		if !labels.Right(l) {
			t.Errorf("%q is right", l)
		}
	}
	for _, l := range [][]api.Label{
		of("b", "1", "a", "1"), of("a", "1", "a", "1"), of("a", "1", "a", "2"), of("a", "2", "a", "1"), of("a", "1", "b", "1", "a", "2"), of("a", "1", "c", "1", "b", "1"),
		of("a", "1", "Z", "1"), of("aa", "1", "a0", "1"), of("aa", "1", "a", "1"), of("a", ""), of("a", "1", "b", ""), of("a", "", "b", "1"),
		of("a", long(257)), of("a", "1", "b", long(257)), of("a", long(1<<16)), of("", ""), of("", "1", "a", "1"), many(33), many(90),
		append(many(31), of("l31", "", "l32", "1")...),
	} {
		if labels.Right(l) {
			t.Errorf("%q is not right", l)
		}
	}
	for _, s := range wrongNames() {
		if labels.Right(of(s, "1")) {
			t.Errorf("%q is no name", s)
		}
	}
}

func TestP301Set(t *testing.T) {
	for _, c := range [][2][]api.Label{
		{nil, nil},
		{{}, nil},
		{of("a", "1"), of("a", "1")},
		{of("a", ""), nil},
		{of("b", "2", "a", "1", "c", "", api.Name, "m"), of(api.Name, "m", "a", "1", "b", "2")},
		{of("a", "3", "b", "2", "c", "1"), of("a", "3", "b", "2", "c", "1")},
		{of("c", "1", "b", "2", "a", "3"), of("a", "3", "b", "2", "c", "1")},
		{of("a", "1", "_", "1", "Z", "1", "a0", "1", "aa", "1", "A", "1"), of("A", "1", "Z", "1", "_", "1", "a", "1", "a0", "1", "aa", "1")},
		{of("c", "", "b", "", "a", ""), nil},
		{of("b", "x", "a", "x"), of("a", "x", "b", "x")},
		{of("a", long(256)), of("a", long(256))},
		{of(long(64), "\x00"), of(long(64), "\x00")},
	} {
		wantSet(t, c[0], c[1], api.OK)
	}
}

func TestP301SetRefuses(t *testing.T) {
	for _, l := range [][]api.Label{
		of("a", "1", "a", "1"), of("a", "1", "a", "2"), of("a", "1", "a", ""), of("a", "", "a", "1"), of("a", "", "a", ""), of("a", "1", "b", "1", "a", "1"),
		of("b", "", "a", "1", "b", "2", "c", "3"), of("a", long(257)), of("a", "1", "b", long(257)), of("b", long(1<<16), "a", "1"),
		{{}}, of("a", "1", "", ""),
	} {
		wantSet(t, l, nil, api.ErrArg)
	}
	for _, s := range wrongNames() {
		for _, l := range [][]api.Label{of(s, "1"), of(s, ""), of("b", "1", s, "1"), of("b", "1", s, "", "a", "1")} {
			wantSet(t, l, nil, api.ErrArg)
		}
	}
}

func TestP301SetIsBoundedByWhatIsLeft(t *testing.T) {
	wantSet(t, many(32), many(32), api.OK)
	wantSet(t, many(33), nil, api.ErrArg)
	wantSet(t, many(99), nil, api.ErrArg)
	for _, at := range []int{0, 1, 16, 32} {
		l := many(33)
		l[at].Value = ""
		wantSet(t, l, slices.Delete(many(33), at, at+1), api.OK)
	}
	l := many(34)
	l[7].Value = ""
	wantSet(t, l, nil, api.ErrArg)
	// Names of empty values are not counted, but still may not come twice.
	l = many(32)
	for i := range 2000 {
		l = append(l, api.Label{Name: fmt.Sprintf("e%04d", i)})
	}
	wantSet(t, l, many(32), api.OK)
	wantSet(t, append(l, api.Label{Name: "e1234"}), nil, api.ErrArg)
	wantSet(t, append(l, api.Label{Name: "l05"}), nil, api.ErrArg)
}

// TestP301SetOfEveryOrder: the order in which labels are handed in is not to be seen.
func TestP301SetOfEveryOrder(t *testing.T) {
	sorted := of("B", "1", "_", "5", "__name__", "2", "a", "3", "b", "4")
	var orders func(n int, l []api.Label)
	orders = func(n int, l []api.Label) {
		if n == len(l) {
			wantSet(t, l, sorted, api.OK)
		}
		for i := n; i < len(l); i++ {
			next := slices.Clone(l)
			next[n], next[i] = next[i], next[n]
			orders(n+1, next)
		}
	}
	orders(0, sorted)
}

// TestP301SetIsRight: of all lists that a few labels make, held against counting.
func TestP301SetIsRight(t *testing.T) {
	pieces := of("a", "1", "a", "2", "a", "", "b", "1", "B", "1", "", "1")
	for n := range 7 * 7 * 7 * 7 {
		var l []api.Label
		values, ok := map[string]string{}, true
		for k := n; k > 0; k /= 7 {
			if k%7 == 6 {
				continue
			}
			x := pieces[k%7]
			_, twice := values[x.Name]
			ok, values[x.Name] = ok && !twice && x.Name != "", x.Value
			l = append(l, x)
		}
		var left []api.Label
		for _, name := range []string{"B", "a", "b"} {
			if values[name] != "" {
				left = append(left, api.Label{Name: name, Value: values[name]})
			}
		}
		if ok {
			wantSet(t, l, left, api.OK)
		} else {
			wantSet(t, l, nil, api.ErrArg)
		}
	}
}

func TestP302Get(t *testing.T) {
	l := of("A", "0", api.Name, "m", "a", "1", "b", "2")
	for name, value := range map[string]string{"A": "0", api.Name: "m", "a": "1", "b": "2", "": "", "B": "", "aa": "", "c": "", "m": "", "1": "", "__name": "", "\xff": "", long(1000): ""} {
		if got := labels.Get(l, name); got != value {
			t.Errorf("Get of %q: %q instead of %q", name, got, value)
		}
		if got := labels.Get(nil, name); got != "" {
			t.Errorf("Get of %q, of nothing: %q", name, got)
		}
	}
	for i, x := range many(32) {
		if got := labels.Get(many(32), x.Name); got != strconv.Itoa(i) {
			t.Errorf("Get of %q: %q", x.Name, got)
		}
	}
}

func TestP302With(t *testing.T) {
	l := of(api.Name, "m", "b", "1", "d", "2")
	for _, c := range []struct {
		name, value string
		want        []api.Label
	}{
		{"b", "9", of(api.Name, "m", "b", "9", "d", "2")},
		{"b", "1", l},
		{"d", "9", of(api.Name, "m", "b", "1", "d", "9")},
		{api.Name, "n", of(api.Name, "n", "b", "1", "d", "2")},
		{"a", "9", of(api.Name, "m", "a", "9", "b", "1", "d", "2")},
		{"A", "9", of("A", "9", api.Name, "m", "b", "1", "d", "2")},
		{"c", "9", of(api.Name, "m", "b", "1", "c", "9", "d", "2")},
		{"b0", "9", of(api.Name, "m", "b", "1", "b0", "9", "d", "2")},
		{"e", "9", of(api.Name, "m", "b", "1", "d", "2", "e", "9")},
		{long(64), long(256), append(slices.Clone(l), of(long(64), long(256))...)},
		{"b", long(256), of(api.Name, "m", "b", long(256), "d", "2")},
		{"b", "\x00", of(api.Name, "m", "b", "\x00", "d", "2")},
		{api.Name, "", of("b", "1", "d", "2")},
		{"b", "", of(api.Name, "m", "d", "2")},
		{"d", "", of(api.Name, "m", "b", "1")},
		{"c", "", l},
		{"", "", l},
		{"1", "", l},
		// what would not be right
		{"c", long(257), l},
		{"b", long(257), l},
	} {
		want(t, fmt.Sprintf("With %q, %q", c.name, c.value), labels.With(l, c.name, c.value), c.want)
	}
	for _, s := range wrongNames() {
		want(t, fmt.Sprintf("With %q", s), labels.With(l, s, "9"), l)
		want(t, fmt.Sprintf("nothing With %q", s), labels.With(nil, s, "9"), nil)
	}
	want(t, "nothing With", labels.With(nil, "a", "1"), of("a", "1"))
	want(t, "nothing With the empty value", labels.With(nil, "a", ""), nil)
	want(t, "With the one's empty value", labels.With(of("a", "1"), "a", ""), nil)
}

func TestP302WithIsBounded(t *testing.T) {
	full := many(32)
	for _, name := range []string{"a", "l05x", "z"} {
		want(t, "full With "+name, labels.With(full, name, "1"), full)
		want(t, "full With the empty "+name, labels.With(full, name, ""), full)
	}
	changed := many(32)
	changed[31].Value = "9"
	want(t, "full With one that is there", labels.With(full, "l31", "9"), changed)
	want(t, "full without one", labels.With(full, "l31", ""), many(31))
	want(t, "room for one", labels.With(many(31), "l31", "31"), full)
	want(t, "room for one ahead", labels.With(many(31), "a", "1"), append(of("a", "1"), many(31)...))
}

func TestP302KeepAndDrop(t *testing.T) {
	l := of("A", "0", api.Name, "m", "a", "1", "b", "2")
	for _, c := range []struct {
		names      []string
		keep, drop []api.Label
	}{
		{nil, nil, l},
		{[]string{}, nil, l},
		{[]string{"a"}, of("a", "1"), of("A", "0", api.Name, "m", "b", "2")},
		{[]string{"b", "A"}, of("A", "0", "b", "2"), of(api.Name, "m", "a", "1")},
		{[]string{"b", "z"}, of("b", "2"), of("A", "0", api.Name, "m", "a", "1")},
		{[]string{"a", "a", "a"}, of("a", "1"), of("A", "0", api.Name, "m", "b", "2")},
		{[]string{"b", "a", api.Name, "A"}, l, nil},
		{[]string{"", "1", "aa", "B", "\xff"}, nil, l},
		{[]string{api.Name}, of(api.Name, "m"), of("A", "0", "a", "1", "b", "2")},
	} {
		want(t, fmt.Sprintf("Keep of %q", c.names), labels.Keep(l, c.names...), c.keep)
		want(t, fmt.Sprintf("Drop of %q", c.names), labels.Drop(l, c.names...), c.drop)
		want(t, "Keep of nothing", labels.Keep(nil, c.names...), nil)
		want(t, "Drop of nothing", labels.Drop(nil, c.names...), nil)
	}
	want(t, "Keep none", labels.Keep(l), nil)
	want(t, "Drop none", labels.Drop(l), l)
}

func TestP302Group(t *testing.T) {
	l := of("A", "0", api.Name, "m", "a", "1", "b", "2")
	for _, c := range []struct {
		how   int
		names []string
		want  []api.Label
	}{
		{api.By, nil, nil},
		{api.By, []string{"a"}, of("a", "1")},
		{api.By, []string{"b", api.Name}, of(api.Name, "m", "b", "2")},
		{api.By, []string{api.Name}, of(api.Name, "m")},
		{api.By, []string{"z", "z"}, nil},
		{api.Without, nil, of("A", "0", "a", "1", "b", "2")},
		{api.Without, []string{"a"}, of("A", "0", "b", "2")},
		{api.Without, []string{"b", api.Name}, of("A", "0", "a", "1")},
		{api.Without, []string{api.Name}, of("A", "0", "a", "1", "b", "2")},
		{api.Without, []string{"z"}, of("A", "0", "a", "1", "b", "2")},
		{api.Without, []string{"a", "b", "A"}, nil},
		{0, nil, nil},
		{0, []string{"a"}, nil},
		{3, []string{"a"}, nil},
		{-1, []string{"a"}, nil},
		{1 << 62, []string{"a"}, nil},
	} {
		g := api.Group{How: c.how, Names: c.names}
		want(t, fmt.Sprintf("Group of %v", g), labels.Group(l, g), c.want)
		want(t, "Group of nothing", labels.Group(nil, g), nil)
	}
	want(t, "without, of no metric's name", labels.Group(of("a", "1", "b", "2"), api.Group{How: api.Without, Names: []string{"b"}}), of("a", "1"))
}

func wantKey(t *testing.T, l []api.Label, key string) {
	t.Helper()
	if got := labels.Key(l); got != key {
		t.Errorf("Key of %q: %q instead of %q", l, got, key)
	}
	if got, e := labels.Back(key); !slices.Equal(got, l) || e != api.OK {
		t.Errorf("Back of %q: %q, %v", key, got, e)
	}
}

func wantNoKey(t *testing.T, key string) {
	t.Helper()
	if got, e := labels.Back(key); got != nil || e != api.ErrForm {
		t.Errorf("Back of %q: %q, %v", key, got, e)
	}
}

func TestP303KeyAndBack(t *testing.T) {
	wantKey(t, nil, "")
	wantKey(t, of("a", "1"), "1:a1:1")
	wantKey(t, of(api.Name, "m", "a", "x:y"), "8:__name__1:m1:a3:x:y")
	wantKey(t, of("a", "1:b1:x", "c", "12"), "1:a6:1:b1:x1:c2:12")
	wantKey(t, of("a", ":", "b", "\x00\xff"), "1:a1::1:b2:\x00\xff")
	wantKey(t, of("a", "é"), "1:a2:é")
	wantKey(t, of("a0123456789", "0123456789"), "11:a012345678910:0123456789")
	wantKey(t, of(long(64), long(256)), "64:"+long(64)+"256:"+long(256))
	wantKey(t, of("a", long(99), "b", long(100)), "1:a99:"+long(99)+"1:b100:"+long(100))
	key := ""
	for _, x := range many(32) {
		key += fmt.Sprintf("3:%s%d:%s", x.Name, len(x.Value), x.Value)
	}
	wantKey(t, many(32), key)
}

// TestP303KeyOfAnyList: Key says nothing of its list's being right.
func TestP303KeyOfAnyList(t *testing.T) {
	for key, l := range map[string][]api.Label{
		"1:b1:21:a1:1":              of("b", "2", "a", "1"),
		"1:a1:11:a1:1":              of("a", "1", "a", "1"),
		"0:0:":                      of("", ""),
		"1:a0:":                     of("a", ""),
		"2:a-1:1":                   of("a-", "1"),
		"1:a257:" + long(257):       of("a", long(257)),
		"1000:" + long(1000) + "0:": of(long(1000), ""),
	} {
		if got := labels.Key(l); got != key {
			t.Errorf("Key of %q: %q instead of %q", l, got, key)
		}
		wantNoKey(t, key)
	}
	wantNoKey(t, labels.Key(many(33)))
	wantNoKey(t, labels.Key(many(34)))
	wantNoKey(t, labels.Key(many(99)))
	wantNoKey(t, strings.Repeat("1:a1:b", 1<<16))
	for _, s := range wrongNames() {
		wantNoKey(t, labels.Key(of(s, "1")))
	}
}

func TestP303BackRefuses(t *testing.T) {
	for _, key := range []string{
		// numbers that Key writes otherwise
		"01:a1:1", "1:a01:1", "001:a1:1", "+1:a1:1", "1:a+1:1", "-1:a1:1", "1:a-1:1", " 1:a1:1", "1 :a1:1", "1:a1 :1", "0x1:a1:1", "1_0:abcdefghij1:1", "1e0:a1:1", "1.0:a1:1",
		":a1:1", "1:a:1", "a:a1:1", "1a:a1:1", "\uff11:a1:1", "\xff:a1:1", "00:0:", "-0:a1:1", "1:a-0:",
		// too great, also for an int
		"2:a1:1", "9:a1:b", "1:a2:1", "1:a9:1", "5:a1:1", "65:a1:1", "9223372036854775807:a1:1", "9223372036854775808:a1:1", "18446744073709551617:a1:1",
		"1:a18446744073709551617:1", "-9223372036854775808:a1:1", "4294967297:a1:1", strings.Repeat("9", 1000) + ":a1:1", "1:a" + strings.Repeat("9", 1000) + ":1",
		strings.Repeat("0", 1000) + "1:a1:1",
		// ends too soon
		"1", "1:", "1:a", "1:a1", "1:a1:", "1:a1:11", "1:a1:11:", "1:a1:11:b", "1:a1:11:b1", "1:a1:11:b1:", "1:a2:x", ":", "a", "x",
		// ends too late
		"1:a1:bz", "1:a1:b ", "1:a1:b:", "1:a1:b0", "1:a1:b\x00", "1:a1:b1:", " 1:a1:b", "1:a1:b\n",
		// lists that are not right
		"1:a0:", "0:1:a", "0:0:", "0:", "1:a1:10:1:1", "1:b1:x1:a1:y", "1:a1:11:a1:1", "1:a1:11:a1:2", "1:11:1", "2:a-1:1", "1:a1:11:b0:", "1:a0:1:b1:1", "1:a1:11:-1:1",
		"65:" + long(65) + "1:1", "1:a257:" + long(257), "1:a1:1" + "1:b257:" + long(257),
	} {
		wantNoKey(t, key)
	}
}

var shortLabel = regexp.MustCompile(`^(?:1:([a-z])|2:([a-z][a-z0-9]))(?:1:(.)|2:(..))`)

// keyLabels reads a key of short pieces by a pattern; false, if it is none of a list whose names rise.
func keyLabels(key string) ([]api.Label, bool) {
	var l []api.Label
	for key != "" {
		m := shortLabel.FindStringSubmatch(key)
		if m == nil {
			return nil, false
		}
		l = append(l, api.Label{Name: m[1] + m[2], Value: m[3] + m[4]})
		if len(l) > 1 && l[len(l)-2].Name >= l[len(l)-1].Name {
			return nil, false
		}
		key = key[len(m[0]):]
	}
	return l, true
}

// TestP303BackOfEveryText: all texts that a few pieces make, held against another way of reading them.
func TestP303BackOfEveryText(t *testing.T) {
	pieces := []string{"", "0", "1", "2", ":", "a", "b", "1:a", "1:1"}
	keys := 0
	for n := range 9 * 9 * 9 * 9 * 9 {
		s := ""
		for k := n; k > 0; k /= 9 {
			s += pieces[k%9]
		}
		l, ok := keyLabels(s)
		if !ok {
			wantNoKey(t, s)
			continue
		}
		wantKey(t, l, s)
		keys++
	}
	if keys < 10 {
		t.Errorf("%d keys", keys)
	}
}

func TestP303Compare(t *testing.T) {
	// Each list stands ahead of all that follow.
	rising := [][]api.Label{
		nil,
		of("A", "2"),
		of("A", "2", "B", "1"),
		of("Z", "1"),
		of(api.Name, "m", "a", "1"),
		of(api.Name, "m", "b", "1"),
		of("a", "\x00"),
		of("a", "1"),
		of("a", "1", "aa", "2"),
		of("a", "1", "b", "1"),
		of("a", "1", "b", "1", "c", "1"),
		of("a", "1", "b", "10"),
		of("a", "1", "b", "2"),
		of("a", "1", "ba", "1"),
		of("a", "1", "c", "0"),
		of("a", "10"),
		of("a", "1a"),
		of("a", "2"),
		of("a", "2", "b", "1"),
		of("a", "A"),
		of("a", "a"),
		of("a", "\x7f"),
		of("a", "é"),
		of("a", "\xff"),
		of("a1", "0"),
		of("aa", "0"),
		of("b", "0"),
	}
	for i, a := range rising {
		for k, b := range rising {
			if got := labels.Compare(a, slices.Clone(b)); got != cmp.Compare(i, k) {
				t.Errorf("Compare of %q, %q: %d", a, b, got)
			}
		}
	}
	full := many(32)
	for i := range full {
		less := slices.Clone(full)
		less[i].Value = ""
		if labels.Compare(less, full) != -1 || labels.Compare(full, less) != 1 || labels.Compare(full[:i], full) != -1 || labels.Compare(full, full[:i]) != 1 {
			t.Errorf("Compare at %d", i)
		}
	}
	if labels.Compare(nil, []api.Label{}) != 0 || labels.Compare([]api.Label{}, nil) != 0 {
		t.Error("Compare of nothing")
	}
}

// TestP303CompareOfAnyLists: names decide ahead of values, the first place ahead of the second, in any order.
func TestP303CompareOfAnyLists(t *testing.T) {
	for _, c := range []struct {
		a, b []api.Label
		want int
	}{
		{of("b", "1", "a", "1"), of("b", "1", "a", "2"), -1},
		{of("b", "1"), of("a", "2", "c", "3"), 1},
		{of("a", "2"), of("b", "1"), -1},
		{of("", "2"), of("a", "1"), -1},
		{of("a", ""), of("a", "1"), -1},
		{of("a", "", "a", ""), of("a", ""), 1},
		{of("", ""), nil, 1},
		{many(100), many(99), 1},
	} {
		if got := labels.Compare(c.a, c.b); got != c.want {
			t.Errorf("Compare of %q, %q: %d", c.a, c.b, got)
		}
	}
}

func wantQuote(t *testing.T, s, quoted string) {
	t.Helper()
	if got := labels.Quote(s); got != quoted {
		t.Errorf("Quote of %q: %s instead of %s", s, got, quoted)
	}
	for _, behind := range []string{"", "more", "\"", "\\", "\x00", quoted, "\"\"", "\xff"} {
		got, n, e := labels.Unquote(quoted + behind)
		if got != s || n != len(quoted) || e != api.OK {
			t.Errorf("Unquote of %q: %q, %d, %v instead of %q, %d", quoted+behind, got, n, e, s, len(quoted))
		}
	}
}

func wantNoQuote(t *testing.T, s string) {
	t.Helper()
	if got, n, e := labels.Unquote(s); got != "" || n != 0 || e != api.ErrForm {
		t.Errorf("Unquote of %q: %q, %d, %v", s, got, n, e)
	}
}

func TestP304Quote(t *testing.T) {
	for s, quoted := range map[string]string{
		"":                  `""`,
		"a":                 `"a"`,
		"a b":               `"a b"`,
		"'`{},=":            "\"'`{},=\"",
		`"`:                 `"\""`,
		`\`:                 `"\\"`,
		`\"`:                `"\\\""`,
		`\x41`:              `"\\x41"`,
		`\\`:                `"\\\\"`,
		"\x00":              `"\x00"`,
		"\x09\x0a\x0d":      `"\x09\x0a\x0d"`,
		"\x1e\x1f\x20\x21":  `"\x1e\x1f !"`,
		"\x7d\x7e\x7f\x80":  `"}~\x7f\x80"`,
		"\x9a\xab\xfe\xff":  `"\x9a\xab\xfe\xff"`,
		"é":                 `"\xc3\xa9"`,
		"\u2028":            `"\xe2\x80\xa8"`,
		"a\"b\\c\n\xff~":    `"a\"b\\c\x0a\xff~"`,
		"\x00a":             `"\x00a"`,
		"\x0aff":            `"\x0aff"`,
		long(1 << 16):       `"` + long(1<<16) + `"`,
		"\x00" + long(1000): `"\x00` + long(1000) + `"`,
	} {
		wantQuote(t, s, quoted)
	}
}

func TestP304QuoteOfEveryByte(t *testing.T) {
	for c := range 256 {
		s := string([]byte{byte(c)})
		want := s
		switch {
		case s == `\` || s == `"`:
			want = `\` + s
		case c < 0x20 || c >= 0x7f:
			want = fmt.Sprintf(`\x%02x`, c)
		}
		wantQuote(t, s, `"`+want+`"`)
		wantQuote(t, "1"+s+"1", `"1`+want+`1"`)
		// No other way of saying a byte is taken.
		for _, other := range []string{s, `\` + s, fmt.Sprintf(`\x%02x`, c), fmt.Sprintf(`\x%02X`, c), fmt.Sprintf(`\%03o`, c), fmt.Sprintf(`\u%04x`, c), fmt.Sprintf(`\x%x`, c), fmt.Sprintf(`\X%02x`, c)} {
			if other == want || other == `"` || other == `\\` || other == `\"` {
				continue
			}
			wantNoQuote(t, `"`+other+`"`)
			wantNoQuote(t, `"a`+other+`g"`)
		}
	}
}

func TestP304UnquoteRefuses(t *testing.T) {
	for _, s := range []string{
		"", "a", " ", `a"a"`, ` ""`, `\"a\"`, `'a'`, "`a`", "\x00", "\xff",
		// they do not end
		`"`, `"a`, `"a b c`, `"\`, `"\"`, `"\\`, `"\\\"`, `"\x`, `"\x"`, `"\x0`, `"\x0"`, `"\x00`, `"\xff`, `"\xf"`, `"` + long(1<<16),
		// bytes said otherwise
		`"\n"`, `"\t"`, `"\r"`, `"\0"`, `"\a"`, `"\'"`, `"\/"`, `"\ "`, `"\u0041"`, `"\101"`, `"\x41"`, `"\x20"`, `"\x7e"`, `"\x22"`, `"\x5c"`, `"\x30"`, `"\x7a"`,
		`"\x0A"`, `"\xFF"`, `"\xfF"`, `"\xFf"`, `"\X0a"`, `"\x0g"`, `"\xg0"`, `"\x-1"`, `"\x 1"`, `"\x1 "`, `"\x+f"`, `"\x0:"`, "\"\\x0`\"", `"\x0/"`, `"\x/0"`,
		"\"\n\"", "\"\x00\"", "\"\x1f\"", "\"\x7f\"", "\"\x80\"", "\"\xff\"", "\"é\"", "\"a\tb\"", "\"\\\n\"", "\"\\\x00\"", "\"\\\xff\"",
	} {
		wantNoQuote(t, s)
	}
}

// TestP304UnquoteOfEveryText: all texts that a few bytes make, held against a pattern.
func TestP304UnquoteOfEveryText(t *testing.T) {
	quoted := regexp.MustCompile(`^"((?:[ !#-\[\]-~]|\\["\\]|\\x(?:[01][0-9a-f]|7f|[89a-f][0-9a-f]))*)"`)
	unsaid := regexp.MustCompile(`\\(["\\])|\\x([0-9a-f]{2})`)
	pieces := []string{"", `"`, `\`, "x", "0", "f", "7", "F", "\x1f", `\x`, "\xff"}
	for n := range 11 * 11 * 11 * 11 * 11 {
		s := `"`
		for k := n; k > 0; k /= 11 {
			s += pieces[k%11]
		}
		m := quoted.FindStringSubmatch(s)
		if m == nil {
			wantNoQuote(t, s)
			continue
		}
		text := unsaid.ReplaceAllStringFunc(m[1], func(said string) string {
			if len(said) == 2 {
				return said[1:]
			}
			c, _ := strconv.ParseUint(said[2:], 16, 8)
			return string([]byte{byte(c)})
		})
		got, length, e := labels.Unquote(s)
		if got != text || length != len(m[0]) || e != api.OK {
			t.Errorf("Unquote of %q: %q, %d, %v", s, got, length, e)
		}
		if labels.Quote(got) != m[0] {
			t.Errorf("Quote of %q is not %s", got, m[0])
		}
	}
}

func TestP304Text(t *testing.T) {
	for _, c := range []struct {
		l    []api.Label
		text string
	}{
		{nil, `{}`},
		{of(api.Name, "m"), `m`},
		{of(api.Name, long(64)), long(64)},
		{of(api.Name, long(65)), `{__name__="` + long(65) + `"}`},
		{of("a", "1"), `{a="1"}`},
		{of("a", "1", "b", "2"), `{a="1",b="2"}`},
		{of(api.Name, "m", "a", "1"), `m{a="1"}`},
		{of(api.Name, "m", "a", "1", "b", "2"), `m{a="1",b="2"}`},
		{of("A", "0", api.Name, "m"), `m{A="0"}`},
		{of("A", "0", api.Name, "m", "a", "1"), `m{A="0",a="1"}`},
		{of("A", "0", "B", "0", api.Name, "m_1", "a", "1"), `m_1{A="0",B="0",a="1"}`},
		{of(api.Name, "a b"), `{__name__="a b"}`},
		{of(api.Name, "1"), `{__name__="1"}`},
		{of(api.Name, "a:b", "a", "1"), `{__name__="a:b",a="1"}`},
		{of("A", "0", api.Name, "a-b", "a", "1"), `{A="0",__name__="a-b",a="1"}`},
		{of(api.Name, "\xff\""), `{__name__="\xff\""}`},
		{of("a", "x\"y\\z\n{}=,é"), `{a="x\"y\\z\x0a{}=,\xc3\xa9"}`},
		{of(api.Name, api.Name, "_", "_"), `__name__{_="_"}`},
		{of("name", "m", "_name_", "m"), `{name="m",_name_="m"}`},
		// lists that are not right
		{of("b", "2", api.Name, "m", "a", ""), `m{b="2",a=""}`},
		{of(api.Name, ""), `{__name__=""}`},
		{of("", ""), `{=""}`},
	} {
		if got := labels.Text(c.l); got != c.text {
			t.Errorf("Text of %q: %s instead of %s", c.l, got, c.text)
		}
	}
	text := "m{"
	for i, x := range many(31) {
		text += strings.Repeat(",", min(i, 1)) + x.Name + `="` + x.Value + `"`
	}
	if got := labels.Text(append(of(api.Name, "m"), many(31)...)); got != text+"}" {
		t.Errorf("Text of many: %s", got)
	}
}

// roomy answers l with spare room behind it that a careless call could write to.
func roomy(l []api.Label) []api.Label {
	whole := append(slices.Clone(l), of("spare", "0", "spare", "1", "spare", "2")...)
	return whole[:len(l)]
}

// scribble writes over all that an answer holds, its spare room too.
func scribble(l []api.Label) {
	for i := range l[:cap(l)] {
		l[:cap(l)][i] = api.Label{Name: "scribbled", Value: "over"}
	}
}

// TestP2NothingIsShared: neither what is handed in nor its spare room is changed, nor is it what is answered.
func TestP2NothingIsShared(t *testing.T) {
	calls := map[string]func(l []api.Label, names []string) []api.Label{
		"Set":             func(l []api.Label, _ []string) []api.Label { set, _ := labels.Set(l...); return set },
		"With new":        func(l []api.Label, _ []string) []api.Label { return labels.With(l, "ab", "9") },
		"With last":       func(l []api.Label, _ []string) []api.Label { return labels.With(l, "z", "9") },
		"With another":    func(l []api.Label, _ []string) []api.Label { return labels.With(l, "a", "9") },
		"With the same":   func(l []api.Label, _ []string) []api.Label { return labels.With(l, "a", "1") },
		"With empty":      func(l []api.Label, _ []string) []api.Label { return labels.With(l, "a", "") },
		"With none empty": func(l []api.Label, _ []string) []api.Label { return labels.With(l, "z", "") },
		"With wrong":      func(l []api.Label, _ []string) []api.Label { return labels.With(l, "1", "9") },
		"Keep":            func(l []api.Label, names []string) []api.Label { return labels.Keep(l, names...) },
		"Keep all":        func(l []api.Label, _ []string) []api.Label { return labels.Keep(l, "b", "a", api.Name) },
		"Drop":            func(l []api.Label, names []string) []api.Label { return labels.Drop(l, names...) },
		"Drop none":       func(l []api.Label, _ []string) []api.Label { return labels.Drop(l) },
		"By": func(l []api.Label, names []string) []api.Label {
			return labels.Group(l, api.Group{How: api.By, Names: names})
		},
		"Without": func(l []api.Label, names []string) []api.Label {
			return labels.Group(l, api.Group{How: api.Without, Names: names})
		},
		"Text": func(l []api.Label, _ []string) []api.Label { labels.Text(l); labels.Key(l); return nil },
	}
	for what, call := range calls {
		for _, right := range [][]api.Label{of(api.Name, "m", "a", "1", "b", "2"), of("b", "2", "a", "1", "c", "", api.Name, "m"), nil} {
			l := roomy(right)
			whole := slices.Clone(l[:cap(l)])
			allNames := []string{"b", api.Name, "spare"}
			names := allNames[:2]
			first := call(l, names)
			want(t, what+", handed in", l[:cap(l)], whole)
			if !slices.Equal(allNames, []string{"b", api.Name, "spare"}) {
				t.Errorf("%s: names are %q", what, allNames)
			}
			second := call(l, names)
			want(t, what+" again", second, first)
			kept := slices.Clone(second)
			scribble(first)
			want(t, what+", written over", l[:cap(l)], whole)
			want(t, what+", the second", second, kept)
		}
	}
}

func TestP2BackIsNew(t *testing.T) {
	first, _ := labels.Back("1:a1:11:b1:2")
	second, _ := labels.Back("1:a1:11:b1:2")
	scribble(first)
	want(t, "the second", second, of("a", "1", "b", "2"))
}

// TestP1EveryListIsAnswered: lists that are not right make no call panic.
func TestP1EveryListIsAnswered(t *testing.T) {
	names := append(wrongNames(), "a", "b", api.Name)
	lists := [][]api.Label{nil, many(33), many(99), of("b", "1", "a", "2", "b", "3"), of("a", "", "", "", "\xff", "\xff")}
	for _, a := range names {
		for _, b := range names {
			lists = append(lists, of(a, b, b, a, "a", "1"))
		}
	}
	for i, l := range lists {
		labels.Right(l)
		labels.Set(l...)
		labels.Compare(l, lists[(i+1)%len(lists)])
		labels.Back(labels.Text(l))
		labels.Unquote(labels.Key(l))
		for _, name := range []string{"", "a", "b", "\xff", api.Name} {
			labels.Get(l, name)
			labels.With(l, name, "")
			labels.With(l, name, "1")
			labels.Keep(l, name, name)
			labels.Drop(l, name, "")
			labels.Group(l, api.Group{How: i - 3, Names: []string{name}})
		}
	}
}

func FuzzP304Unquote(f *testing.F) {
	for _, s := range []string{`""`, `"a\"b"c`, `"\x0a`, "\"\xff\""} {
		f.Add([]byte(s))
	}
	f.Fuzz(func(t *testing.T, s []byte) {
		text, n, e := labels.Unquote(string(s))
		if e == api.OK && !bytes.Equal([]byte(labels.Quote(text)), s[:n]) || e != api.OK && (text != "" || n != 0) {
			t.Errorf("Unquote of %q: %q, %d, %v", s, text, n, e)
		}
	})
}

func FuzzP303Back(f *testing.F) {
	for _, s := range []string{"", "1:a1:b", "8:__name__1:m1:a3:x:y", "01:a1:b"} {
		f.Add(s)
	}
	f.Fuzz(func(t *testing.T, s string) {
		l, e := labels.Back(s)
		if e == api.OK && (labels.Key(l) != s || !labels.Right(l)) || e != api.OK && l != nil {
			t.Errorf("Back of %q: %q, %v", s, l, e)
		}
	})
}
