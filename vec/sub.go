package vec

import (
	"slices"

	"isobar/api"
	"isobar/ir"
	"isobar/labels"
)

// sub answers a function's outcomes of the values that a kid has at multiples of Step, with the kid's labels.
// The kid is asked at as many times at once as a grid may have: however many there are in all, more memory than
// that is not taken.
func (r *run) sub(n *ir.Node) Batch {
	var b Batch
	places, count := map[string]int{}, len(r.times)
	for at := 0; at < len(r.times); {
		part, asked := r.part(n, at)
		made := r.outcomes(n, at, part, asked)
		for i, l := range made.L {
			key := labels.Key(l)
			place, known := places[key]
			if !known {
				place = len(b.L)
				places[key] = place
				b = b.with(l, blank(count))
			}
			copy(b.C[place].V[at:], made.C[i].V)
			copy(b.C[place].Has[at:], made.C[i].Has)
		}
		at += len(part)
	}
	return b
}

// part answers the times from a place on that are done at once, and those at which the kid is asked for them.
func (r *run) part(n *ir.Node, at int) (part, asked []int) {
	end := at
	for end < len(r.times) {
		more := stretched(n, asked, r.times[end])
		if end > at && len(more) > api.MaxSteps {
			break
		}
		asked = more
		end++
	}
	return r.times[at:end], asked
}

// stretched answers times with the multiples of Step behind them that are in the stretch of t.
func stretched(n *ir.Node, times []int, t int) []int {
	to := t - n.Offset
	next := above(to-n.Range, n.Step)
	if len(times) > 0 {
		next = max(next, times[len(times)-1]+n.Step)
	}
	for ; next <= to; next += n.Step {
		times = append(times, next)
	}
	return times
}

// outcomes answers what a Sub is at a part of the times, that begins at a place.
func (r *run) outcomes(n *ir.Node, at int, part, asked []int) Batch {
	kid := run{from: r.from, most: r.most, times: asked}
	v := kid.do(&n.Kids[0])
	if kid.err != api.OK {
		failed := asked[len(kid.times)]
		// The first stretch that goes so far has that time.
		i := slices.IndexFunc(part, func(t int) bool { return t-n.Offset >= failed })
		r.fail(at+i, kid.err)
	}
	var pieces [][]api.Sample
	for _, c := range v.C {
		pieces = append(pieces, samples(c, kid.times))
	}
	return Batch{L: v.L, C: slideOf(n, part).over(pieces)}
}

// above answers the least multiple of step above t. What is left of t below 0 is below 0 too: without it t is
// rounded up already.
func above(t, step int) int {
	multiple := t - t%step
	if multiple <= t {
		multiple += step
	}
	return multiple
}
