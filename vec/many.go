package vec

import (
	"math"
	"slices"

	"isobar/agg"
	"isobar/api"
	"isobar/fval"
	"isobar/ir"
	"isobar/labels"
	"isobar/window"
)

// aggregated makes one column of each group, or leaves in its columns the points that are chosen.
func (r *run) aggregated(n *ir.Node, a Batch) Batch {
	var out Batch
	for _, x := range grouped(a, func(l []api.Label) []api.Label { return labels.Group(l, n.G) }).list {
		if agg.Takes(n.Fn) {
			choose(n.Fn, n.Num, x.C)
			out = Batch{L: append(out.L, x.L...), C: append(out.C, x.C...)}
		} else {
			out = out.with(x.labels, folded(n.Fn, x.C))
		}
	}
	return r.inOrder(out)
}

// folded answers what an aggregation makes of columns: it goes through them once, one behind the other.
func folded(op int, l []window.Column) window.Column {
	made := blank(len(l[0].V))
	count := make([]float64, len(made.V))
	for _, c := range l {
		for i, has := range c.Has {
			if !has {
				continue
			}
			if count[i] == 0 || takes(op, made.V[i], c.V[i]) {
				made.V[i] = c.V[i]
			} else if op == api.ASum || op == api.AAvg {
				made.V[i] = fval.Sum(made.V[i], c.V[i])
			}
			made.Has[i] = true
			count[i]++
		}
	}
	for i, n := range count {
		switch op {
		case api.AAvg:
			made.V[i], _ = fval.Op(api.Div, made.V[i], n)
		case api.ACount:
			made.V[i] = n
		case api.AGroup:
			made.V[i] = 1
		}
	}
	return made
}

// takes tells whether a value comes in place of the one that is the least, or the greatest, so far. A NaN gives
// way to whatever comes behind it, and never comes in place of a number.
func takes(op int, so, v float64) bool {
	switch op {
	case api.AMin:
		return v < so || math.IsNaN(so)
	case api.AMax:
		return v > so || math.IsNaN(so)
	}
	return false
}

// choose leaves at each time the k points that stand first as op orders them; those of the Same value stand as
// their columns do.
func choose(op int, k float64, l []window.Column) {
	var there []int // places of columns that have a point
	for i := range l[0].Has {
		there = there[:0]
		for at, c := range l {
			if c.Has[i] {
				there = append(there, at)
			}
		}
		slices.SortStableFunc(there, func(p, q int) int {
			switch {
			case ahead(op, l[p].V[i], l[q].V[i]):
				return -1
			case ahead(op, l[q].V[i], l[p].V[i]):
				return 1
			}
			return 0
		})
		for place, at := range there {
			l[at].Has[i] = float64(place+1) <= k
		}
	}
}

// ahead tells whether a is chosen ahead of b. A NaN is chosen behind all numbers either way.
func ahead(op int, a, b float64) bool {
	if op == api.ATop || math.IsNaN(a) || math.IsNaN(b) {
		return fval.Before(b, a)
	}
	return fval.Before(a, b)
}
