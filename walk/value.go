package walk

import (
	"isobar/agg"
	"isobar/api"
	"isobar/fval"
	"isobar/ir"
	"isobar/join"
	"isobar/labels"
	"isobar/vector"
	"isobar/window"
)

// value answers a plan's value at a time: its kids' ahead of its own, the first error that comes.
func (w walker) value(p *plan, t int) (Value, api.Errno) {
	var kids [2]Value          // no node has more
	if p.node.Kind != ir.Sub { // which asks its kid at times of its own
		for i, kid := range p.kids {
			v, err := w.value(kid, t)
			if err != api.OK {
				return Value{}, err
			}
			kids[i] = v
		}
	}
	v, err := w.own(p, kids[0], kids[1], t)
	if err != api.OK {
		return Value{}, err
	}
	if len(v.Vec) > w.most {
		return Value{}, api.ErrLimit
	}
	return v, api.OK
}

// own answers what a node makes of its kids' values. Where its type is theirs, and they are scalars, it goes the
// way of the nodes that are scalars always.
func (w walker) own(p *plan, a, b Value, t int) (Value, api.Errno) {
	n, x := &p.node, p.node.Num
	var v vector.Vec
	err := api.OK
	switch n.Kind {
	case ir.Time:
		x = float64(t) / 1000
		fallthrough
	case ir.Const:
		goto scalar
	case ir.ToScalar:
		x = a.Vec.Scalar()
		goto scalar
	case ir.Map:
		if a.Scalar {
			x, _ = fval.Fn(n.Fn, a.V, n.Num)
			goto scalar
		}
		v, err = a.Vec.Map(n.Fn, n.Num)
	case ir.Binary:
		if a.Scalar && b.Scalar {
			x, _ = fval.Op(n.Fn, a.V, b.V)
			goto scalar
		}
		v, err = binary(n, a, b)
	case ir.Select:
		v, err = w.last(p, t-n.Offset)
	case ir.Window, ir.Sub:
		v, err = w.over(p, t-n.Offset)
	case ir.Agg:
		v, err = agg.Agg(n.Fn, n.G, n.Num, a.Vec)
	case ir.Label:
		v, err = a.Vec.Label(n.Name, n.Value)
	case ir.Absent:
		v = a.Vec.Absent(n.M...)
	case ir.ToVector:
		v = vector.Of(a.V)
	}
	return Value{Vec: v}, err
scalar:
	return Value{Scalar: true, V: fval.Canon(x)}, api.OK
}

// binary answers an operator's outcome of two values of which one at least is a vector.
func binary(n *ir.Node, a, b Value) (vector.Vec, api.Errno) {
	switch {
	case a.Scalar:
		return b.Vec.Scaled(n.Fn, a.V, true, n.Flag)
	case b.Scalar && n.Fn != api.Deft:
		return a.Vec.Scaled(n.Fn, b.V, false, n.Flag)
	case b.Scalar && len(a.Vec) > 0:
		return a.Vec, api.OK
	case b.Scalar:
		return vector.Of(b.V), api.OK
	case n.Fn >= api.And:
		return join.Set(n.Fn, n.X.G, a.Vec, b.Vec)
	}
	return join.Binary(n.Fn, n.X, n.Flag, a.Vec, b.Vec)
}

// last answers the values that a Select's series have at a time.
func (w walker) last(p *plan, at int) (vector.Vec, api.Errno) {
	var points []api.Point
	for _, x := range p.found {
		if v, ok := w.store.Last(x.number, at, api.Lookback); ok {
			points = append(points, api.Point{L: x.labels, V: v})
		}
	}
	return vector.Normal(points...)
}

// over answers a function's outcome over the stretch that ends at a time.
func (w walker) over(p *plan, to int) (vector.Vec, api.Errno) {
	from := to - p.node.Range
	l, err := w.stretch(p, from, to)
	if err != api.OK {
		return nil, err
	}
	var points []api.Point
	for _, x := range l {
		if v, ok := window.Fn(p.node.Fn, x.S, from, to); ok {
			points = append(points, api.Point{L: labels.Drop(x.L, api.Name), V: v})
		}
	}
	return vector.Normal(points...)
}

// stretch answers what there is above from and up to to: a Window's series, or a Sub's kid's values.
func (w walker) stretch(p *plan, from, to int) ([]api.Series, api.Errno) {
	if p.node.Kind == ir.Sub {
		step := p.node.Step
		return w.series(p.kids[0], above(from, step), to, step)
	}
	var l []api.Series
	for _, x := range p.found {
		l = append(l, api.Series{L: x.labels, S: w.store.Range(x.number, from, to)})
	}
	return l, api.OK
}

// series puts together a plan's values at times that are steps apart: the samples of each list of labels, in
// the order in which these come.
func (w walker) series(p *plan, first, last, step int) ([]api.Series, api.Errno) {
	var l []api.Series
	places := map[string]int{}
	for t := first; t <= last; t += step {
		v, err := w.value(p, t)
		if err != api.OK {
			return nil, err
		}
		for _, x := range v.points() {
			key := labels.Key(x.L)
			at, known := places[key]
			if !known {
				at = len(l)
				places[key] = at
				l = append(l, api.Series{L: x.L})
			}
			l[at].S = append(l[at].S, api.Sample{T: t, V: x.V})
		}
	}
	return l, api.OK
}

// points answers v's, a scalar as one that no labels name.
func (v Value) points() vector.Vec {
	if v.Scalar {
		return vector.Of(v.V)
	}
	return v.Vec
}

// above answers the least multiple of step above t. The multiple that is found first is t, or lies from it
// towards 0: below 0 that is above it already. (stamp.Align goes no further than times that may be asked.)
func above(t, step int) int {
	at := t - t%step
	if at <= t {
		at += step
	}
	return at
}
