package ir

import (
	"isobar/agg"
	"isobar/api"
	"isobar/join"
	"isobar/labels"
	"isobar/match"
	"isobar/window"
)

const (
	maxPoints  = 1 << 12 // of the Subs of one way, together
	maxSubStep = 1000    // steps in a Sub's range
)

// Check answers a plan's type. Types of nodes whose parents are still to come wait on a stack: kids come first,
// so a node's own ones lie on top.
func Check(n Node) (int, api.Errno) {
	if Size(n) > api.MaxNodes || Depth(n) > api.MaxDepth || !pointsFit(n, 1) {
		return 0, api.ErrLimit
	}
	var types []int
	for _, x := range nodes(n) {
		if err := checkNode(x); err != api.OK {
			return 0, err
		}
		below := len(types) - len(x.Kids)
		t := typeOf(x, types[below:])
		if t == 0 {
			return 0, api.ErrType
		}
		types = append(types[:below], t)
	}
	return types[0], api.OK
}

// pointsFit tells whether a plan that is asked at so many points asks each of its nodes at no more than may be.
// The product can't run over: it was within the bound at the node above.
func pointsFit(n Node, points int) bool {
	if n.Kind == Sub && isLength(n.Range) && isLength(n.Step) {
		points *= n.Range/n.Step + 1
	}
	if points > maxPoints {
		return false
	}
	for _, kid := range n.Kids {
		if !pointsFit(kid, points) {
			return false
		}
	}
	return true
}

// checkNode tells whether what n has may be, its kids' types aside.
func checkNode(n Node) api.Errno {
	has, ok := shapeOf(n)
	if !ok || len(n.Kids) != has.kids {
		return api.ErrArg
	}
	if has.matchers {
		if err := match.Check(n.M...); err != api.OK {
			return err
		}
	}
	if err := checkTimes(n, has); err != api.OK {
		return err
	}
	if has.fn && !isFunction(n) {
		return api.ErrArg
	}
	if has.match {
		return join.Check(n.X)
	}
	if has.group {
		return agg.Check(n.G)
	}
	if has.label && (!labels.Name(n.Name) || len(n.Value) > api.MaxValue) {
		return api.ErrArg
	}
	return api.OK
}

func checkTimes(n Node, has shape) api.Errno {
	if has.offset && (n.Offset < -api.MaxTime || n.Offset > api.MaxTime) {
		return api.ErrArg
	}
	if has.length && !isLength(n.Range) || has.step && !isLength(n.Step) {
		return api.ErrArg
	}
	if has.step && n.Range > maxSubStep*n.Step {
		return api.ErrLimit
	}
	return api.OK
}

func isLength(d int) bool {
	return d >= 1 && d <= api.MaxTime
}

// isFunction tells whether n's Fn is one of its kind's.
func isFunction(n Node) bool {
	switch n.Kind {
	case Window, Sub:
		return window.Name(n.Fn) != ""
	case Map:
		return n.Fn >= api.FAbs && n.Fn <= api.FMax
	case Binary:
		return n.Fn >= api.Add && n.Fn <= api.Deft
	}
	return agg.Name(n.Fn) != ""
}

// typeOf answers the type of a node that checkNode takes, of kids of these types; 0, if they do not fit.
func typeOf(n Node, kids []int) int {
	switch n.Kind {
	case Const, Time:
		return api.TScalar
	case Select, Window, Sub, Empty:
		return api.TVector
	case Map:
		return kids[0]
	case Agg, Label, Absent:
		return kept(kids[0] == api.TVector, api.TVector)
	case ToScalar:
		return kept(kids[0] == api.TVector, api.TScalar)
	case ToVector:
		return kept(kids[0] == api.TScalar, api.TVector)
	}
	return binaryType(n, kids[0], kids[1])
}

// binaryType answers the type of a Binary. Flag is of comparisons alone: nothing else answers whether it holds.
func binaryType(n Node, a, b int) int {
	compares := n.Fn >= api.Eq && n.Fn <= api.Le
	sets := n.Fn > api.Le
	if n.Flag && !compares {
		return 0
	}
	if a == api.TVector && b == api.TVector {
		return kept(!sets || n.X.Card == api.OneOne, api.TVector)
	}
	// Names, and names included, are told by these two: join.Check takes none without.
	if n.X.G.How != 0 || n.X.Card != api.OneOne {
		return 0
	}
	if a == api.TScalar && b == api.TScalar {
		return kept(!sets && compares == n.Flag, api.TScalar)
	}
	return kept(!sets || n.Fn == api.Deft && a == api.TVector, api.TVector)
}
