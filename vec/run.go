package vec

import (
	"math"
	"slices"

	"isobar/api"
	"isobar/fval"
	"isobar/ir"
	"isobar/labels"
	"isobar/vector"
	"isobar/window"
)

// run is a plan that is done at times that rise. Once an error has come at one of them, those ahead of it are all
// that is left: only there could another one come first.
type run struct {
	from  *source
	most  int
	times []int
	err   api.Errno
}

// value is what a node is at all times. A scalar is one column, that no labels name.
type value struct {
	scalar bool
	Batch
}

// fail keeps the error of a time, if the time is left. Nodes are done kids first, so of several errors of one
// time the one that comes first is kept.
func (r *run) fail(at int, err api.Errno) {
	if at < len(r.times) {
		r.times, r.err = r.times[:at], err
	}
}

// do answers what a node is at the times that are left. Each column that it answers is nobody else's.
func (r *run) do(n *ir.Node) value {
	var kids [2]value     // no node has more
	if n.Kind != ir.Sub { // which asks its kid at times of its own
		for i := range n.Kids {
			kids[i] = r.do(&n.Kids[i])
		}
	}
	if len(r.times) == 0 {
		return value{}
	}
	r.cut(kids[0].C)
	r.cut(kids[1].C)
	v := r.own(n, kids[0], kids[1])
	if !v.scalar {
		v.Batch = r.within(v.Batch)
	}
	return v
}

// cut leaves of columns what is at the times that are left, so that all have one length.
func (r *run) cut(l []window.Column) {
	for i, c := range l {
		l[i] = window.Column{V: c.V[:len(r.times)], Has: c.Has[:len(r.times)]}
	}
}

// within leaves out the columns without a point, and fails where there are more points than may be.
func (r *run) within(b Batch) Batch {
	var out Batch
	for i, c := range b.C {
		if isAnywhere(c) {
			out = out.with(b.L[i], c)
		}
	}
	for at, n := range points(out.C, len(r.times)) {
		if n > r.most {
			r.fail(at, api.ErrLimit)
		}
	}
	return out
}

// own answers what a node makes of its kids' values.
func (r *run) own(n *ir.Node, a, b value) value {
	switch n.Kind {
	case ir.Const:
		return r.scalar(func(int) float64 { return fval.Canon(n.Num) })
	case ir.Time:
		return r.scalar(func(i int) float64 { return float64(r.times[i]) / 1000 })
	case ir.ToScalar:
		return r.alone(a.Batch)
	case ir.Map:
		return value{scalar: a.scalar, Batch: r.mapped(n, a.Batch)}
	case ir.Binary:
		return r.binary(n, a, b)
	}
	return value{Batch: r.vector(n, a.Batch)}
}

// vector answers what a node makes of its kid, if it is always a vector.
func (r *run) vector(n *ir.Node, a Batch) Batch {
	switch n.Kind {
	case ir.Select:
		return r.from.load(n, r.times)
	case ir.Window:
		return r.nameless(r.from.load(n, r.times))
	case ir.Sub:
		return r.nameless(r.sub(n))
	case ir.Agg:
		return r.aggregated(n, a)
	case ir.Label:
		return r.merged(a, api.ErrDup, func(l []api.Label) []api.Label { return labels.With(l, n.Name, n.Value) })
	case ir.Absent:
		return r.absent(n, a)
	case ir.ToVector:
		return a
	}
	return Batch{}
}

// scalar answers a value at each place of a time.
func (r *run) scalar(at func(i int) float64) value {
	c := blank(len(r.times))
	for i := range c.V {
		c.V[i], c.Has[i] = at(i), true
	}
	return value{scalar: true, Batch: Batch{}.with(nil, c)}
}

// alone answers the points that are their times' only ones, and NaN of other times.
func (r *run) alone(a Batch) value {
	count := points(a.C, len(r.times))
	v := r.scalar(func(int) float64 { return fval.Canon(math.NaN()) })
	for _, c := range a.C {
		for i, has := range c.Has {
			if has && count[i] == 1 {
				v.C[0].V[i] = c.V[i]
			}
		}
	}
	return v
}

// mapped answers a function's outcomes: of a scalar too, which has no name to lose.
func (r *run) mapped(n *ir.Node, a Batch) Batch {
	for i, c := range a.C {
		a.C[i], _ = Fn(n.Fn, n.Num, c)
	}
	return r.nameless(a)
}

// absent answers a point at the times that have none.
func (r *run) absent(n *ir.Node, a Batch) Batch {
	p := vector.Vec(nil).Absent(n.M...)[0]
	always := r.scalar(func(int) float64 { return p.V })
	return Batch{}.with(p.L, missing(always.C[0], a.C))
}

// missing leaves of a scalar's column what is there at times at which others have no point.
func missing(c window.Column, others []window.Column) window.Column {
	for i, n := range points(others, len(c.Has)) {
		c.Has[i] = n == 0
	}
	return c
}

// isAnywhere tells whether a column has a point.
func isAnywhere(c window.Column) bool {
	return slices.Contains(c.Has, true)
}

// points answers how many points columns have at each of so many times.
func points(l []window.Column, count int) []int {
	n := make([]int, count)
	for _, c := range l {
		for i := range n {
			if c.Has[i] {
				n[i]++
			}
		}
	}
	return n
}
