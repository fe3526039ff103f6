package vec

import (
	"slices"

	"isobar/api"
	"isobar/ir"
	"isobar/join"
	"isobar/labels"
	"isobar/window"
)

// binary answers an operator's outcome of two values.
func (r *run) binary(n *ir.Node, a, b value) value {
	switch {
	case n.Fn == api.Deft && b.scalar:
		return value{Batch: r.inOrder(a.with(nil, missing(b.C[0], a.C)))}
	case a.scalar || b.scalar:
		return value{scalar: a.scalar && b.scalar, Batch: r.scaled(n, a, b)}
	case n.Fn >= api.And:
		return value{Batch: r.set(n, a.Batch, b.Batch)}
	}
	return value{Batch: r.joined(n, a.Batch, b.Batch)}
}

// scaled answers an operator's outcomes of two values of which one at least is a scalar.
func (r *run) scaled(n *ir.Node, a, b value) Batch {
	v := a.Batch
	if a.scalar {
		v = b.Batch
	}
	for i, c := range v.C {
		x, y := c, c
		if a.scalar {
			x = a.C[0]
		}
		if b.scalar {
			y = b.C[0]
		}
		v.C[i] = outcome(n, x, y, c)
	}
	if chooses(n) {
		return v
	}
	return r.nameless(v)
}

// chooses tells whether an operator leaves the points of which it holds, and has no values of its own.
func chooses(n *ir.Node) bool {
	return n.Fn >= api.Eq && n.Fn <= api.Le && !n.Flag
}

// outcome answers Op, or, of an operator that chooses, what is left where it holds.
func outcome(n *ir.Node, a, b, left window.Column) window.Column {
	c, _ := Op(n.Fn, a, b)
	if chooses(n) {
		for i, v := range c.V {
			c.V[i], c.Has[i] = left.V[i], v == 1 // it is 0 where one side lacks, too
		}
	}
	return c
}

// joined answers an operator's outcomes of the points of two vectors that meet. Where both sides have one, each
// is made one of each Sign ahead, and the one is many as well.
func (r *run) joined(n *ir.Node, a, b Batch) Batch {
	many, one := a, b
	if n.X.Card == api.OneMany {
		many, one = b, a
	}
	if n.X.Card == api.OneOne {
		many = r.merged(many, api.ErrMany, sign(n))
	}
	r.merged(one, api.ErrMany, sign(n)) // which holds it to one
	signs := grouped(one, sign(n))
	for i, x := range signs.list { // columns that are told apart by nothing that is included are fewer as one
		signs.list[i].Batch = r.merged(x.Batch, api.ErrMany, included(n))
	}
	var out Batch
	for i, l := range many.L {
		at, known := signs.find(l)
		if !known {
			continue
		}
		met := signs.list[at]
		for k, c := range met.C {
			x, y := many.C[i], c
			if n.X.Card == api.OneMany {
				x, y = y, x
			}
			if made := outcome(n, x, y, x); isAnywhere(made) {
				out = out.with(joint(n.X, l, met.L[k]), made)
			}
		}
	}
	return r.inOrder(out)
}

// sign makes labels those that points meet by.
func sign(n *ir.Node) func([]api.Label) []api.Label {
	return func(l []api.Label) []api.Label { return join.Sign(l, n.X.G) }
}

// included makes labels those that the other side's points are given, and a name alone tells of.
func included(n *ir.Node) func([]api.Label) []api.Label {
	return func(l []api.Label) []api.Label { return labels.Keep(l, n.X.Include...) }
}

// joint answers the labels of points that meet: those of one to one are the Sign already. Names are included in
// their order: where labels are as many as may be, one more finds room just behind one that is taken away.
func joint(x api.Match, many, one []api.Label) []api.Label {
	if x.Card == api.OneOne {
		return many
	}
	l := labels.Drop(many, api.Name)
	for _, name := range x.Include {
		l = labels.With(l, name, labels.Get(one, name))
	}
	return l
}

// set answers the points of a, and of b, that an operator of sets leaves.
func (r *run) set(n *ir.Node, a, b Batch) Batch {
	switch n.Fn {
	case api.And:
		r.meeting(n, a, b, true)
		return a
	case api.Less:
		r.meeting(n, a, b, false)
		return a
	}
	r.meeting(n, b, a, false)
	return r.inOrder(Batch{L: slices.Concat(a.L, b.L), C: slices.Concat(a.C, b.C)})
}

// meeting leaves of columns the points whose Sign some point of others has, or those whose Sign none has.
func (r *run) meeting(n *ir.Node, b, others Batch, some bool) {
	signs := grouped(others, sign(n))
	there := make([][]int, len(signs.list))
	for i, x := range signs.list {
		there[i] = points(x.C, len(r.times))
	}
	for i, l := range b.L {
		at, known := signs.find(l)
		for k, has := range b.C[i].Has {
			b.C[i].Has[k] = has && some == (known && there[at][k] > 0)
		}
	}
}
