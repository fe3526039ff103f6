package regex

import "isobar/api"

// special is the bytes that say something else than themselves.
const special = `\.[]()|*+?`

// behindStroke is the bytes that say themselves behind a stroke.
const behindStroke = special + `^${}/-`

// In a set of bytes others than outside of one are special, and may stand behind a stroke.
const (
	specialInSet      = `]\-^`
	behindStrokeInSet = special + `-^`
)

type kind int

const (
	oneByte   kind = iota // one of a set
	inTurn                // parts, one behind the other
	either                // one of the parts
	anyNumber             // of the part, as the next two
	oneOrMore
	oneOrNone
)

// node is a pattern that was read, or a part of one.
type node struct {
	kind  kind
	bytes byteSet
	parts []node
}

// byteSet has a bit for each byte.
type byteSet [4]uint64

func (l *byteSet) has(c byte) bool {
	return l[c/64]&(1<<(c%64)) != 0
}

// add counts by ints: behind the last byte there is none to end at.
func (l *byteSet) add(from, to byte) {
	for c := int(from); c <= int(to); c++ {
		l[c/64] |= 1 << (c % 64)
	}
}

func (l byteSet) others() byteSet {
	for i := range l {
		l[i] = ^l[i]
	}
	return l
}

// tooDeep finds the first bracket that stands deeper than any may. It passes over what can't stand where it
// does: of a text that is no pattern, too, its depth is told first.
func tooDeep(s string) (int, bool) {
	depth, inSet := 0, false
	for at := 0; at < len(s); at++ {
		switch c := s[at]; {
		case c == '\\':
			at++
		case inSet:
			inSet = c != ']'
		case c == '[':
			inSet = true
		case c == '(' && depth == api.MaxDepth:
			return at, true
		case c == '(':
			depth++
		case c == ')':
			depth = max(depth-1, 0)
		}
	}
	return 0, false
}

// reader goes through a pattern's text. Each of its methods that answers a bool tells by it whether it could
// read what it is for; if not, at is the place of what can't stand there.
type reader struct {
	s  string
	at int
}

// pattern reads up to the text's end, or to a closing bracket.
func (r *reader) pattern() (node, bool) {
	n := node{kind: either}
	for {
		part, ok := r.pieces()
		if !ok {
			return node{}, false
		}
		n.parts = append(n.parts, part)
		if !r.take('|') {
			return n, true
		}
	}
}

func (r *reader) pieces() (node, bool) {
	n := node{kind: inTurn}
	for r.at < len(r.s) && r.s[r.at] != '|' && r.s[r.at] != ')' {
		part, ok := r.piece()
		if !ok {
			return node{}, false
		}
		n.parts = append(n.parts, part)
	}
	return n, true
}

func (r *reader) piece() (node, bool) {
	atom, ok := r.atom()
	switch {
	case !ok:
		return node{}, false
	case r.take('*'):
		return node{kind: anyNumber, parts: []node{atom}}, true
	case r.take('+'):
		return node{kind: oneOrMore, parts: []node{atom}}, true
	case r.take('?'):
		return node{kind: oneOrNone, parts: []node{atom}}, true
	}
	return atom, true
}

func (r *reader) atom() (node, bool) {
	switch {
	case r.take('.'):
		return node{kind: oneByte, bytes: byteSet{}.others()}, true
	case r.take('('):
		return r.bracketed()
	case r.take('['):
		return r.set()
	}
	c, ok := r.letter(special, behindStroke)
	if !ok {
		return node{}, false
	}
	n := node{kind: oneByte}
	n.bytes.add(c, c)
	return n, true
}

// bracketed reads on behind an opening bracket.
func (r *reader) bracketed() (node, bool) {
	n, ok := r.pattern()
	if !ok || !r.take(')') {
		return node{}, false
	}
	return n, true
}

// set reads on behind what begins a set of bytes.
func (r *reader) set() (node, bool) {
	n := node{kind: oneByte}
	without := r.take('^')
	if !r.item(&n.bytes) {
		return node{}, false
	}
	for !r.take(']') {
		if !r.item(&n.bytes) {
			return node{}, false
		}
	}
	if without {
		n.bytes = n.bytes.others()
	}
	return n, true
}

// item reads a byte, or a range, and adds it to l.
func (r *reader) item(l *byteSet) bool {
	from, ok := r.letter(specialInSet, behindStrokeInSet)
	to, at := from, r.at
	if ok && r.take('-') {
		at = r.at
		to, ok = r.letter(specialInSet, behindStrokeInSet)
	}
	if !ok {
		return false
	}
	if to < from { // what can't stand there begins with the stroke, if there is one
		r.at = at
		return false
	}
	l.add(from, to)
	return true
}

// letter reads one byte that says itself: one that is not barred, or one of stroked behind a stroke.
func (r *reader) letter(barred, stroked string) (byte, bool) {
	stroke := r.take('\\')
	if r.at == len(r.s) {
		return 0, false
	}
	c := r.s[r.at]
	if stroke && !isAmong(stroked, c) || !stroke && isAmong(barred, c) {
		return 0, false
	}
	r.at++
	return c, true
}

// take passes over c, if it is what comes.
func (r *reader) take(c byte) bool {
	if r.at == len(r.s) || r.s[r.at] != c {
		return false
	}
	r.at++
	return true
}
