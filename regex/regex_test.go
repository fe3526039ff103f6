package regex_test

import (
	"math/rand"
	"regexp"
	"strings"
	"sync"
	"testing"

	"isobar/api"
	"isobar/regex"
)

// The bytes that stand for something else outside of sets, and those that may stand behind a stroke, outside and in one.
const (
	special  = "\\.[]()|*+?"
	stroked  = "\\.[]()|*+?^${}/-"
	inSet    = "][\\-^.()|*+?"
	notInSet = "]\\-^"
)

// compile answers the program of a pattern that must be one.
func compile(t *testing.T, s string) *regex.Prog {
	t.Helper()
	p, at, e := regex.Compile(s)
	if p == nil || at != 0 || e != api.OK {
		t.Fatalf("Compile of %.80q: %v, %d, %v", s, p, at, e)
	}
	if n := p.States(); n < 1 || n > 4*len(s)+4 {
		t.Fatalf("%.80q has %d states", s, n)
	}
	return p
}

// wantRefused holds a text that is no pattern against the place and the error that are asked.
func wantRefused(t *testing.T, s string, at int, errno api.Errno) {
	t.Helper()
	p, place, e := regex.Compile(s)
	if p != nil || place != at || e != errno {
		t.Errorf("Compile of %.80q: %v, %d, %v instead of %d, %v", s, p, place, e, at, errno)
	}
}

// wantMatches holds a pattern against texts that it must match, and others that it must not.
func wantMatches(t *testing.T, s string, yes, no []string) {
	t.Helper()
	p := compile(t, s)
	for _, b := range yes {
		if !p.Match(b) {
			t.Errorf("%q does not match %q", s, b)
		}
	}
	for _, b := range no {
		if p.Match(b) {
			t.Errorf("%q matches %q", s, b)
		}
	}
}

// wantBytes holds a pattern of one byte against all texts of one byte, none and two.
func wantBytes(t *testing.T, s string, has func(c byte) bool) {
	t.Helper()
	p := compile(t, s)
	for c := range 256 {
		if p.Match(one(c)) != has(byte(c)) {
			t.Errorf("%q, %q: %v", s, one(c), !has(byte(c)))
		}
		if p.Match(one(c) + one(c)) {
			t.Errorf("%q matches two bytes", s)
		}
	}
	if p.Match("") {
		t.Errorf("%q matches nothing", s)
	}
}

func one(c int) string { return string([]byte{byte(c)}) }

func only(c int) func(byte) bool { return func(x byte) bool { return int(x) == c } }

func times(n int, s string) string { return strings.Repeat(s, n) }

func words(s string) []string { return strings.Split(s, " ") }

func TestP401EveryByte(t *testing.T) {
	for c := range 256 {
		switch s := one(c); {
		case !strings.Contains(special, s):
			wantBytes(t, s, only(c))
			wantMatches(t, "a"+s+"b", []string{"a" + s + "b"}, []string{"ab", s, "a" + s, "a" + s + s + "b", "axb" + s})
		case s == ".":
			wantBytes(t, s, func(byte) bool { return true })
		case s == "|":
			wantMatches(t, s, []string{""}, []string{"|", "a"})
		case s == "\\" || s == "[" || s == "(":
			wantRefused(t, s, 1, api.ErrForm)
		default:
			wantRefused(t, s, 0, api.ErrForm)
		}
	}
}

func TestP401Strokes(t *testing.T) {
	for c := range 256 {
		s := "\\" + one(c)
		if !strings.Contains(stroked, one(c)) {
			wantRefused(t, s, 1, api.ErrForm)
			wantRefused(t, "ab"+s+"*", 3, api.ErrForm)
			continue
		}
		wantBytes(t, s, only(c))
		wantMatches(t, "a"+s+"+b", []string{"a" + one(c) + "b", "a" + one(c) + one(c) + "b"}, []string{"ab", "axb", "a" + one(c), "a" + s + "+b"})
	}
}

func TestP401SetsOfOneByte(t *testing.T) {
	for c := range 256 {
		s := one(c)
		switch s {
		case "]":
			wantRefused(t, "[]]", 1, api.ErrForm)
			wantRefused(t, "[^]]", 2, api.ErrForm)
		case "-", "^":
			wantRefused(t, "[a-"+s+"]", 3, api.ErrForm)
			wantRefused(t, "[^"+s+"]", 2, api.ErrForm)
		case "\\":
			wantRefused(t, "[\\]", 3, api.ErrForm)
		default:
			wantBytes(t, "["+s+"]", only(c))
			wantBytes(t, "[^"+s+"]", func(x byte) bool { return int(x) != c })
		}
		if strings.Contains(inSet, s) {
			wantBytes(t, "[\\"+s+"]", only(c))
			wantBytes(t, "[^\\"+s+"]", func(x byte) bool { return int(x) != c })
		} else {
			wantRefused(t, "[\\"+s+"]", 2, api.ErrForm)
			wantRefused(t, "[a-\\"+s+"]", 4, api.ErrForm)
		}
	}
}

// spelled tells a byte as it may stand in a set.
func spelled(c int) string {
	if strings.Contains(notInSet, one(c)) {
		return "\\" + one(c)
	}
	return one(c)
}

func TestP401Ranges(t *testing.T) {
	for from := range 256 {
		for to := range 256 {
			s := "[" + spelled(from) + "-" + spelled(to) + "]"
			if from > to {
				wantRefused(t, s, len("["+spelled(from)+"-"), api.ErrForm)
				continue
			}
			p := compile(t, s)
			for _, c := range []int{0, from - 1, from, (from + to) / 2, to, to + 1, 63, 64, 127, 128, 191, 192, 255} {
				if c >= 0 && c < 256 && p.Match(one(c)) != (from <= c && c <= to) {
					t.Fatalf("%q, %q: %v", s, one(c), p.Match(one(c)))
				}
			}
		}
	}
}

func TestP401Sets(t *testing.T) {
	wantBytes(t, "[abz]", func(c byte) bool { return c == 'a' || c == 'b' || c == 'z' })
	wantBytes(t, "[aaa]", only('a'))
	wantBytes(t, "[a-cx0-9_]", func(c byte) bool { return strings.Contains("abcx0123456789_", string(rune(c))) && c < 128 })
	wantBytes(t, "[a-cb-e]", func(c byte) bool { return c >= 'a' && c <= 'e' })
	wantBytes(t, "[^a-c.]", func(c byte) bool { return (c < 'a' || c > 'c') && c != '.' })
	wantBytes(t, "[\x00-\xff]", func(byte) bool { return true })
	wantBytes(t, "[^\x00-\xff]", func(byte) bool { return false })
	wantBytes(t, "[.]", only('.'))
	wantBytes(t, "[(]", only('('))
	wantBytes(t, "[)*+?|.([{}$/]", func(c byte) bool { return strings.IndexByte(")*+?|.([{}$/", c) >= 0 })
	wantBytes(t, "[\\^]", only('^'))
	wantBytes(t, "[^\\^]", func(c byte) bool { return c != '^' })
	wantBytes(t, "[\\--0]", func(c byte) bool { return c >= '-' && c <= '0' })
	wantBytes(t, "[*-\\-]", func(c byte) bool { return c >= '*' && c <= '-' })
	wantBytes(t, "[[-\\]]", func(c byte) bool { return c >= '[' && c <= ']' })
	wantBytes(t, "[\\[-\\^]", func(c byte) bool { return c >= '[' && c <= '^' })
	wantBytes(t, "[[]", only('['))
	wantBytes(t, "[a-a]", only('a'))
	wantMatches(t, "[a-c]*[^a-c]+", []string{"d", "ad", "abcde", "\n", "cc\x00\xff"}, []string{"", "a", "abc", "dad", "xa"})
	wantMatches(t, "[a][b]?[c]", []string{"ac", "abc"}, []string{"a", "c", "abbc", "bc", "ab"})
}

func TestP401Pieces(t *testing.T) {
	for s, c := range map[string][2]string{
		"ab":             {"ab", "a b ba abb aab abab"},
		"a*":             {" a aa aaaaaaaaa", "b ab ba aab"},
		"a+":             {"a aa aaaaaaaaa", " b ab ba"},
		"a?":             {" a", "aa b a?"},
		"a*b*":           {" a b ab aabb aaa bbb", "ba aba c"},
		"a+b+":           {"ab aab abb", " a b ba aba"},
		"a?b?c?":         {" a b c ab ac bc abc", "aa ba cb abcc abca"},
		"ab*":            {"a ab abb", " b abab aab"},
		"ab+":            {"ab abb", " a b abab"},
		"ab?":            {"a ab", " b abb abab"},
		"(ab)*":          {" ab abab", "a b aba abb ba"},
		"(ab)+":          {"ab abab", " a aba abb"},
		"(ab)?":          {" ab", "a b abab"},
		"()":             {"", "a ()"},
		"()*":            {"", "a"},
		"()+":            {"", "a"},
		"()?a":           {"a", " aa"},
		"a()b":           {"ab", " a b"},
		"(())":           {"", "a"},
		"(()|a)+b":       {"b ab aaab", " a ba"},
		"|":              {"", "a |"},
		"||":             {"", "a |"},
		"a|":             {" a", "aa b"},
		"|a":             {" a", "aa b"},
		"a||b":           {" a b", "ab aa"},
		"a|b":            {"a b", " ab c"},
		"a|b|c":          {"a b c", " ab abc d"},
		"ab|cd":          {"ab cd", " abd acd abcd a"},
		"ab|a|abc":       {"ab a abc", " b abca"},
		"a(b|c)d":        {"abd acd", " ad abcd ab cd abd|acd"},
		"a(|b)c":         {"ac abc", "abbc a"},
		"(a|b)*":         {" a b ab ba aabb abab", "c abc"},
		"(a|b)*abb":      {"abb aabb babb abbabb", " ab abba bb"},
		"(a*)*":          {" a aa", "b ab"},
		"(a+)+":          {"a aa", " b"},
		"(a?)*":          {" a aa", "b"},
		"(a*)+":          {" a aa", "b"},
		"(a+)?":          {" a aa", "b"},
		"((a*)*|b)*":     {" a b ab ba bb", "c"},
		"(a*b*)*":        {" a b ba abab", "c bac"},
		"(a|ab)(c|bcd)":  {"ac abc abcd abbcd", " abcbcd acd"},
		"x(a|(b|(c|d)))": {"xa xb xc xd", "x a xab"},
		"(a)(b)(c)":      {"abc", "ab bc ac"},
		"a.c":            {"abc a.c acc", "ac abbc bac"},
		".":              {"a . \n \x00 \xff", " aa é"},
		"..":             {"ab é", " a abc"},
		".*":             {" a abc \n\n .*", ""},
		"a.*b.*c":        {"abc aabbcc axbxc a\nb\x00c abcabc", "ab ac acb abcd"},
		".+":             {"a abc", " "},
		"a\\*":           {"a*", "a aa a\\*"},
		"\\(a\\)":        {"(a)", "a"},
		"\\\\":           {"\\", "\\\\"},
		"a-b":            {"a-b", "a b ab"},
		"^a$":            {"^a$", "a ^a a$"},
		"a{2}":           {"a{2}", "aa a"},
		"a{}*":           {"a{ a{} a{}}", "a"},
		"-*":             {" - --", "*"},
		"/a/":            {"/a/", "a"},
		"^*a":            {"a ^a ^^a", "^"},
		"a$?":            {"a a$", "a$$"},
		"é":              {"é", "\xc3 \xa9 e"},
		"é*":             {"\xc3 é \xc3\xa9\xa9", " éé"},
	} {
		no := words(c[1])
		if c[1] == "" {
			no = nil
		}
		wantMatches(t, s, words(c[0]), no)
	}
}

// said is a pattern, and what it says, worked out by itself: of a place in a text all those at which what it says may end.
type said struct {
	text string
	ends func(b string, from int) uint64
}

// each joins what f answers for each of the places in set.
func each(set uint64, f func(at int) uint64) uint64 {
	var all uint64
	for at := range 64 {
		if set>>at&1 == 1 {
			all |= f(at)
		}
	}
	return all
}

func saysByte(text string, has func(c byte) bool) said {
	return said{text, func(b string, from int) uint64 {
		if from < len(b) && has(b[from]) {
			return 1 << (from + 1)
		}
		return 0
	}}
}

func saysBoth(x, y said) said {
	return said{x.text + y.text, func(b string, from int) uint64 {
		return each(x.ends(b, from), func(at int) uint64 { return y.ends(b, at) })
	}}
}

func saysEither(x, y said) said {
	return said{x.text + "|" + y.text, func(b string, from int) uint64 { return x.ends(b, from) | y.ends(b, from) }}
}

func saysMany(x said, sign string) said {
	return said{x.text + sign, func(b string, from int) uint64 {
		var all uint64
		if sign != "+" {
			all = 1 << from
		}
		for next := x.ends(b, from); next&^all != 0 && sign != "?"; next = each(next, func(at int) uint64 { return x.ends(b, at) }) {
			all |= next
		}
		if sign == "?" {
			all |= x.ends(b, from)
		}
		return all
	}}
}

func makeAtom(r *rand.Rand, deep int) said {
	switch n := r.Intn(10); {
	case n == 0:
		return saysByte(".", func(byte) bool { return true })
	case n == 1:
		return saysByte("[^a]", func(c byte) bool { return c != 'a' })
	case n == 2:
		return saysByte("[a-b]", func(c byte) bool { return c == 'a' || c == 'b' })
	case n == 3:
		return saysByte("\\*", func(c byte) bool { return c == '*' })
	case n < 7 && deep > 0:
		x := makePattern(r, deep-1)
		return said{"(" + x.text + ")", x.ends}
	}
	c := "ab"[r.Intn(2)]
	return saysByte(string(rune(c)), func(x byte) bool { return x == c })
}

func makePieces(r *rand.Rand, deep int) said {
	all := said{"", func(b string, from int) uint64 { return 1 << from }}
	for range r.Intn(4) {
		x := makeAtom(r, deep)
		if n := r.Intn(6); n < 3 {
			x = saysMany(x, "*+?"[n:n+1])
		}
		all = saysBoth(all, x)
	}
	return all
}

func makePattern(r *rand.Rand, deep int) said {
	x := makePieces(r, deep)
	for r.Intn(3) == 0 {
		x = saysEither(x, makePieces(r, deep))
	}
	return x
}

// texts answers all texts of up to n of these bytes.
func texts(bytes string, n int) []string {
	all, from := []string{""}, 0
	for range n {
		to := len(all)
		for _, s := range all[from:to] {
			for _, c := range []byte(bytes) {
				all = append(all, s+string([]byte{c}))
			}
		}
		from = to
	}
	return all
}

func TestP401PatternsMade(t *testing.T) {
	r := rand.New(rand.NewSource(401))
	asked := append(texts("ab*", 4), "abababab", "aaaaaaaaaaab", "bbbbbbbbbb", "ab*ab*ab*", "aab*bba\n", "\xff\x00")
	yes, no := 0, 0
	for range 2000 {
		x := makePattern(r, 3)
		p := compile(t, x.text)
		for _, b := range asked {
			m := x.ends(b, 0)>>len(b)&1 == 1
			if p.Match(b) != m {
				t.Fatalf("%q, %q: %v", x.text, b, !m)
			}
			if m {
				yes++
			} else {
				no++
			}
		}
	}
	if yes < 1000 || no < 1000 {
		t.Errorf("%d matched, %d did not", yes, no)
	}
}

func TestP402MatchIsWhole(t *testing.T) {
	wantMatches(t, "abc", []string{"abc"}, []string{"", "ab", "bc", "abcd", "xabc", "abc\n", "\nabc", "abcabc", "ABC"})
	wantMatches(t, "a|bc", []string{"a", "bc"}, []string{"abc", "ac", "b", "c", "xa", "ax"})
	wantMatches(t, "\x00\n\xff", []string{"\x00\n\xff"}, []string{"\x00\n", "\n\xff", "\x00\n\xff\x00"})
	wantMatches(t, "", []string{""}, []string{"a", "\x00", " "})
	wantMatches(t, "a*", []string{times(100000, "a")}, []string{times(100000, "a") + "b", "b" + times(100000, "a")})
}

func TestP402Places(t *testing.T) {
	for s, at := range map[string]int{
		"*": 0, "+": 0, "?": 0, ")": 0, "]": 0, "a]": 1, "a)": 1, "ab)c": 2, "()": -1, "(a))": 3, "(a)b)c": 4, "a|)": 2, "|*": 1, "a|+b": 2, "(*a)": 1, "(|?)": 2,
		"a**": 2, "a*+": 2, "a*?": 2, "a++": 2, "a+?": 2, "a??": 2, "a?*": 2, "(a)**": 4, "[a]?+": 4, ".*.+*": 4, "(a*)*": -1, "\\*+?": 3,
		"(": 1, "((": 2, "(a": 2, "(a|": 3, "((a)": 4, "a(b(c)d": 7, "(a*": 3, "(*": 1, "()(": 3, "([)]": 4, "(\\)": 3,
		"\\": 1, "a\\": 2, "(\\": 2, "\\\\\\": 3, "\\a": 1, "\\n": 1, "\\x41": 1, "\\d": 1, "\\ ": 1, "\\\"": 1, "\\0": 1, "\\é": 1, "a\\bc*": 2, "(\\_)": 2,
		"[": 1, "[]": 1, "[]]": 1, "[]a]": 1, "[^": 2, "[^]": 2, "[^^]": 2, "[^^": 2, "[^]a]": 2, "[a": 2, "[ab": 3, "[a^]": 2, "[a^b]": 2, "[\\^^]": 3,
		"[-": 1, "[-a]": 1, "[^-a]": 2, "[--a]": 1, "[a-": 3, "[a-]": 3, "[a--]": 3, "[a-^]": 3, "[a-b-]": 4, "[a-b-c]": 4, "[a-b": 4, "[ab-]": 4, "[a-[]": 3, "[^a-]": 4,
		"[\\": 2, "[a\\": 3, "[a-\\": 4, "[\\]": 3, "[\\]]": -1, "[\\a]": 2, "[\\$]": 2, "[\\{]": 2, "[\\/]": 2, "[\\n]": 2, "[a-\\z]": 4, "[a-\\$]": 4,
		"[b-a]": 3, "[^b-a]": 4, "[xb-a]": 4, "[a-cz-y]": 6, "[b-a": 3, "[b-\\]]": 3, "[b-\\.]": 3, "[\\]-\\[]": 4, "[\\|-a]": 4, "[b-\\*": 3, "a[z-a]*": 4, "[\xff-\xfe]": 3,
		"(a]": 2, "[a)": 3, "([a)": 4, "[a]]": 3, "[[a]]": 4, "[[]]": 3, "a|b|*": 4, "(a|(b)": 6,
	} {
		if at < 0 {
			compile(t, s)
			continue
		}
		wantRefused(t, s, at, api.ErrForm)
	}
}

// A grammar of P401 by other means: atoms are told by a pattern of the library's, brackets are taken together from the innermost on.
const byteInSet = `(?:[^\]\\^-]|\\[\]\[\\^.()|*+?-])`

var (
	inRange = regexp.MustCompile(byteInSet + `-` + byteInSet + `|` + byteInSet)
	atoms   = regexp.MustCompile(`\\[\\.\[\]()|*+?^${}/-]|\[\^?(?:` + byteInSet + `(?:-` + byteInSet + `)?)+\]|[^\\\[\]()|*+?]`)
	tokens  = regexp.MustCompile(`^(?:` + atoms.String() + `|[()|*+?])*$`)
	piece   = regexp.MustCompile(`A[*+?]`)
	group   = regexp.MustCompile(`\([AQ|]*\)`)
	whole   = regexp.MustCompile(`^[AQ|]*$`)
)

// isFalling tells whether one of a set's ranges falls.
func isFalling(set string) bool {
	if len(set) < 3 || set[0] != '[' {
		return false
	}
	for _, x := range inRange.FindAllString(strings.TrimPrefix(set[1:len(set)-1], "^"), -1) {
		from := strings.TrimPrefix(x, "\\")[0]
		if len(x) > 2 && from > x[len(x)-1] {
			return true
		}
	}
	return false
}

// isPattern tells whether s is a pattern, falling ranges let pass or not.
func isPattern(s string, falling bool) bool {
	if !tokens.MatchString(s) {
		return false
	}
	left := atoms.ReplaceAllStringFunc(s, func(atom string) string {
		if !falling && isFalling(atom) {
			return "!"
		}
		return "A"
	})
	for {
		less := group.ReplaceAllString(piece.ReplaceAllString(left, "Q"), "A")
		if less == left {
			return whole.MatchString(left)
		}
		left = less
	}
}

// mayGoOn tells whether s is a pattern's front.
func mayGoOn(s string, falling bool) bool {
	for _, more := range []string{"", "|", "]", "a]", "|]", "\xff]"} {
		for n := range strings.Count(s, "(") + 1 {
			if isPattern(s+more+times(n, ")"), falling) {
				return true
			}
		}
	}
	return false
}

// placeOf answers where the first byte stands that can't stand there.
func placeOf(s string) int {
	for at := range len(s) {
		if mayGoOn(s[:at+1], false) {
			continue
		}
		if s[at] != '\\' && at > 0 && s[at-1] == '\\' && mayGoOn(s[:at+1], true) { // a range that falls at a byte with a stroke ahead
			return at - 1
		}
		return at
	}
	return len(s)
}

func wantAsGrammar(t *testing.T, s string) {
	t.Helper()
	if isPattern(s, false) {
		compile(t, s)
		return
	}
	wantRefused(t, s, placeOf(s), api.ErrForm)
}

func TestP402PlacesOfShortTexts(t *testing.T) {
	for _, s := range texts("ba|*()[]^-\\", 4) {
		wantAsGrammar(t, s)
	}
}

func TestP402PlacesOfTextsMade(t *testing.T) {
	r := rand.New(rand.NewSource(402))
	const bytes = "ab.|*+?()[]^-\\$\n"
	for range 2000 {
		s := []byte(makePattern(r, 3).text)
		for range 1 + r.Intn(3) {
			at := r.Intn(len(s) + 1)
			s = append(s[:at:at], append([]byte{bytes[r.Intn(len(bytes))]}, s[at:]...)...)
		}
		if len(s) < 40 {
			wantAsGrammar(t, string(s))
		}
	}
}

func TestP402TextLimit(t *testing.T) {
	for _, s := range []string{"a", ".", "a*", "()", "[]", "(((", "*", "|"} {
		long := times(api.MaxText, s)[:api.MaxText]
		if _, at, e := regex.Compile(long); e == api.ErrLimit && at == 0 {
			t.Errorf("%d bytes of %q: %v", api.MaxText, s, e)
		}
		wantRefused(t, long+"a", 0, api.ErrLimit)
		wantRefused(t, times(1<<16, s), 0, api.ErrLimit)
	}
	p := compile(t, times(api.MaxText, "a"))
	if !p.Match(times(api.MaxText, "a")) || p.Match(times(api.MaxText-1, "a")) || p.Match(times(api.MaxText+1, "a")) {
		t.Error("the longest pattern")
	}
}

func TestP402DepthLimit(t *testing.T) {
	deepest := times(40, "(") + "a" + times(40, ")")
	wantMatches(t, deepest, []string{"a"}, []string{"", "aa"})
	wantMatches(t, deepest+"*"+deepest, []string{"a", "aaa"}, []string{"", "b"})
	wantMatches(t, times(1000, "()"), []string{""}, []string{"a"})
	wantMatches(t, times(39, "(")+times(500, "(a)")+times(39, ")"), []string{times(500, "a")}, []string{times(499, "a")})
	wantMatches(t, times(41, "\\("), []string{times(41, "(")}, []string{times(40, "(")})
	wantMatches(t, times(40, "(")+"[(][^((]\\("+times(40, ")"), []string{"(a("}, []string{"((("})
	wantMatches(t, "[\\](((((((((((((((((((((((((((((((((((((((((((((]", []string{"(", "]"}, []string{"", "(("})

	wantRefused(t, times(41, "(")+"a"+times(41, ")"), 40, api.ErrLimit)
	wantRefused(t, times(41, "("), 40, api.ErrLimit)
	wantRefused(t, times(4096, "("), 40, api.ErrLimit)
	wantRefused(t, times(40, "("), 40, api.ErrForm)
	wantRefused(t, "(a)|b"+times(40, "(x")+"((", 85, api.ErrLimit)
	wantRefused(t, times(40, "(")+"a)("+"(", 43, api.ErrLimit)
	wantRefused(t, times(40, "(")+"[a](a)", 43, api.ErrLimit)
	wantRefused(t, times(40, "(")+"\\((", 42, api.ErrLimit)
	wantRefused(t, times(40, "(")+"[\\](](", 45, api.ErrLimit)
	wantRefused(t, "["+times(41, "("), 42, api.ErrForm)
}

// No byte but the brackets goes deeper, or less deep.
func TestP402DepthOfEveryByte(t *testing.T) {
	for c := range 256 {
		s := one(c)
		if strings.Contains(special, s) {
			s = "\\" + s
		}
		wantMatches(t, times(41, s), []string{times(41, one(c))}, []string{times(40, one(c))})
		wantMatches(t, times(40, "(")+s+times(40, ")"), []string{one(c)}, []string{""})
		wantRefused(t, times(41, "("+s), 40*len("("+s), api.ErrLimit)
	}
}

// ErrLimit is named ahead of ErrForm (P6), wherever each of them stands.
func TestP402LimitsAheadOfForm(t *testing.T) {
	wantRefused(t, "*"+times(41, "("), 41, api.ErrLimit)
	wantRefused(t, "a**"+times(41, "("), 43, api.ErrLimit)
	wantRefused(t, "\\a"+times(41, "("), 42, api.ErrLimit)
	wantRefused(t, "[b-a]"+times(41, "("), 45, api.ErrLimit)
	wantRefused(t, ")))"+times(41, "("), 43, api.ErrLimit)
	wantRefused(t, ")"+times(40, "("), 0, api.ErrForm)
	wantRefused(t, times(41, "(")+"*", 40, api.ErrLimit)
	wantRefused(t, times(41, "(")+times(api.MaxText, "*"), 0, api.ErrLimit)
}

// Of each of these one who tries way by way is at no end; and no wide set of states may take more than its share.
func TestP402MatchTakesItsTime(t *testing.T) {
	for _, c := range []struct {
		pattern, text string
		want          bool
	}{
		{times(1000, "a?") + times(1000, "a"), times(1000, "a"), true},
		{times(1000, "a?") + times(1000, "a"), times(999, "a"), false},
		{times(1000, "a*") + "b", times(2000, "a"), false},
		{times(1000, ".*") + "b", times(2000, "a"), false},
		{times(500, "(a*)*") + "b", times(2000, "a"), false},
		{"(a*)*b", times(100000, "a"), false},
		{"(a|a)*b", times(100000, "a"), false},
		{"(a|aa)+", times(100000, "a"), true},
		{"(x+x+)+y", times(100000, "x"), false},
		{"(.*)(.*)(.*)(.*)(.*)x", times(100000, "a"), false},
		{times(40, "(") + "a" + times(40, ")*"), times(100000, "a"), true},
		{times(40, "(") + "a" + times(40, ")+"), times(100000, "a") + "b", false},
		{times(40, "(") + "a" + times(40, "|)*"), times(100000, "a"), true},
		{times(40, "(a?") + times(40, ")*"), times(100000, "a") + "b", false},
		{"(a|b)*a" + times(60, "(a|b)"), times(100000, "ab"), false},
		{times(2000, "a|") + "b", times(1<<24, "a"), false},
		{times(1300, "()*") + "b", times(1<<24, "a"), false},
	} {
		if got := compile(t, c.pattern).Match(c.text); got != c.want {
			t.Errorf("%.40q, %.40q: %v", c.pattern, c.text, got)
		}
	}
}

func TestP402States(t *testing.T) {
	for _, piece := range []string{"a", "a*", "a+", "a?", ".", "|", "a|", "()", "()*", "(|)", "(a)", "[ab]", "[^a-z]*", "\\.", "(a*|b+)?", "(((a)*)*)*"} {
		for _, n := range []int{0, 1, 2, 3, 10, 100, 400} {
			compile(t, times(n, piece))
		}
	}
	if n := compile(t, "").States(); n > 4 {
		t.Errorf("%d states of nothing", n)
	}
	p := compile(t, "(a|b)*")
	n := p.States()
	p.Match("abba")
	p.Match("abc")
	if p.States() != n {
		t.Errorf("%d states, then %d", n, p.States())
	}
}

// One program is asked again and again, and by many at once: it keeps nothing of what it was asked (P3).
func TestP402MatchAgain(t *testing.T) {
	p := compile(t, "(a|bc)*d?")
	var group sync.WaitGroup
	wrong := make([]int, 8)
	for i := range wrong {
		group.Go(func() {
			for range 200 {
				for b, want := range map[string]bool{"": true, "a": true, "abcd": true, "d": true, "ab": false, "dd": false, "bca": true, "cb": false} {
					if p.Match(b) != want {
						wrong[i]++
					}
				}
			}
		})
	}
	group.Wait()
	for _, n := range wrong {
		if n != 0 {
			t.Errorf("%d answers were wrong", n)
		}
	}
}

// A program that Compile did not answer has no states, and matches nothing (P1).
func TestP402NoProgram(t *testing.T) {
	var p regex.Prog
	if p.Match("") || p.Match("a") || p.States() != 0 {
		t.Error("a Prog that was not compiled")
	}
}

func TestP403Escape(t *testing.T) {
	for c := range 256 {
		want := one(c)
		if strings.Contains(special, want) {
			want = "\\" + want
		}
		if got := regex.Escape(one(c)); got != want {
			t.Errorf("Escape of %q: %q", one(c), got)
		}
		wantBytes(t, regex.Escape(one(c)), only(c))
	}
	for s, want := range map[string]string{
		"": "", "abc": "abc", "a.b": "a\\.b", "\\": "\\\\", "\\.": "\\\\\\.", "..": "\\.\\.", "^a$": "^a$", "a{1}-/b": "a{1}-/b",
		"[a](b)|c*d+e?": "\\[a\\]\\(b\\)\\|c\\*d\\+e\\?", "é\x00\xff\n": "é\x00\xff\n",
	} {
		if got := regex.Escape(s); got != want {
			t.Errorf("Escape of %q: %q instead of %q", s, got, want)
		}
		wantMatches(t, want, []string{s}, []string{s + "a", "a" + s, s + s + "."})
	}
	if s := times(1<<16, "."); regex.Escape(s) != times(1<<16, "\\.") {
		t.Error("Escape of a long text")
	}
}

func TestP403Literal(t *testing.T) {
	for s, want := range map[string]string{
		"": "", "abc": "abc", "a\\.b": "a.b", "\\\\": "\\", "\\\\\\\\": "\\\\", "^a$": "^a$", "\\^a\\$": "^a$", "\\{\\}\\/\\-": "{}/-", "{1,2}-/": "{1,2}-/",
		"\\[\\]\\(\\)\\|\\*\\+\\?": "[]()|*+?", "é\x00\xff\n": "é\x00\xff\n",
	} {
		if got, ok := regex.Literal(s); got != want || !ok {
			t.Errorf("Literal of %q: %q, %v", s, got, ok)
		}
		wantMatches(t, s, []string{want}, []string{want + "a", "a" + want})
	}
}

func TestP403LiteralOfNone(t *testing.T) {
	for _, s := range words(". a. .a a* a+ a? ab* a|b a| | (a) () a(b) ( ) [a] [^a] [ ] a] [] * + ? ** \\ a\\ \\a a\\n \\\\\\ a\\.b. abc\\x (a a) a\\.* \\é") {
		if got, ok := regex.Literal(s); got != "" || ok {
			t.Errorf("Literal of %q: %q, %v", s, got, ok)
		}
	}
}

func TestP403LiteralOfEveryByte(t *testing.T) {
	for c := range 256 {
		for _, s := range []string{one(c), "\\" + one(c)} {
			is := !strings.Contains(special, s)
			if len(s) == 2 {
				is = strings.Contains(stroked, one(c))
			}
			want := ""
			if is {
				want = one(c)
			}
			if got, ok := regex.Literal(s); got != want || ok != is {
				t.Errorf("Literal of %q: %q, %v", s, got, ok)
			}
		}
	}
}

func TestP403ThereAndBack(t *testing.T) {
	r := rand.New(rand.NewSource(403))
	for range 2000 {
		s := make([]byte, r.Intn(20))
		for i := range s {
			s[i] = byte(r.Intn(256))
			if r.Intn(2) == 0 {
				s[i] = special[r.Intn(len(special))]
			}
		}
		if got, ok := regex.Literal(regex.Escape(string(s))); got != string(s) || !ok {
			t.Fatalf("%q: %q, %v", s, got, ok)
		}
		wantMatches(t, regex.Escape(string(s)), []string{string(s)}, []string{string(s) + "x", "x" + string(s)})
	}
	long := times(api.MaxText, "*")
	if got, ok := regex.Literal(regex.Escape(long)); got != long || !ok {
		t.Error("a text whose pattern is longer than Compile takes")
	}
}
