package regex

import "slices"

// end is the place of the state that is reached when all that the pattern says was read.
const end = 0

// state waits for a byte of a set, and goes on to next; or forks, and goes on to next and to other without one.
type state struct {
	bytes       byteSet
	forks       bool
	next, other int
}

// builder makes states from the pattern's end on, so that each is made when what follows it is known. Only a
// loop's fork is made ahead of what it leads to. No byte of the pattern makes more than one state.
type builder struct {
	states []state
}

func build(pattern node) *Prog {
	b := builder{states: []state{end: {}}}
	first := b.add(pattern, end)
	return &Prog{states: b.states, first: first}
}

// add makes n's states, and answers the one that n begins with: behind itself, where n says nothing.
func (b *builder) add(n node, behind int) int {
	switch n.kind {
	case oneByte:
		return b.put(state{bytes: n.bytes, next: behind})
	case inTurn:
		for _, part := range slices.Backward(n.parts) {
			behind = b.add(part, behind)
		}
		return behind
	case either:
		return b.addEither(n.parts, behind)
	case oneOrNone:
		return b.put(state{forks: true, next: b.add(n.parts[0], behind), other: behind})
	}
	return b.addLoop(n, behind)
}

func (b *builder) addEither(parts []node, behind int) int {
	last := len(parts) - 1
	first := b.add(parts[last], behind)
	for _, part := range slices.Backward(parts[:last]) {
		first = b.put(state{forks: true, next: b.add(part, behind), other: first})
	}
	return first
}

func (b *builder) addLoop(n node, behind int) int {
	again := b.put(state{forks: true, other: behind})
	first := b.add(n.parts[0], again)
	b.states[again].next = first
	if n.kind == oneOrMore {
		return first
	}
	return again
}

func (b *builder) put(s state) int {
	b.states = append(b.states, s)
	return len(b.states) - 1
}
