package vec

import (
	"slices"

	"isobar/api"
	"isobar/labels"
	"isobar/window"
)

// groups are columns put together by what is made of their labels.
type groups struct {
	by     func([]api.Label) []api.Label
	list   []group
	places map[string]int // by the keys of labels
}

// group is columns, and the labels that are made of those of each.
type group struct {
	labels []api.Label
	Batch
}

// grouped answers the groups in the order of their first columns, so that the map's own order is never seen.
func grouped(b Batch, by func([]api.Label) []api.Label) groups {
	x := groups{by: by, places: map[string]int{}}
	for i, l := range b.L {
		made := by(l)
		key := labels.Key(made)
		at, known := x.places[key]
		if !known {
			at = len(x.list)
			x.places[key] = at
			x.list = append(x.list, group{labels: made})
		}
		x.list[at].Batch = x.list[at].with(l, b.C[i])
	}
	return x
}

// find answers the place of the group that such labels would be of.
func (x groups) find(l []api.Label) (int, bool) {
	at, known := x.places[labels.Key(x.by(l))]
	return at, known
}

// with answers b and one column more.
func (b Batch) with(l []api.Label, c window.Column) Batch {
	return Batch{L: append(b.L, l), C: append(b.C, c)}
}

// nameless answers columns that are not their metric's any more.
func (r *run) nameless(b Batch) Batch {
	return r.merged(b, api.ErrDup, func(l []api.Label) []api.Label { return labels.Drop(l, api.Name) })
}

// inOrder answers columns in the order of their labels.
func (r *run) inOrder(b Batch) Batch {
	return r.merged(b, api.ErrDup, func(l []api.Label) []api.Label { return l })
}

// merged answers columns of what by makes of their labels, in order, and of the same labels one alone. Where two
// of these have a point at one time, it fails with err.
func (r *run) merged(b Batch, err api.Errno, by func([]api.Label) []api.Label) Batch {
	l := grouped(b, by).list
	slices.SortFunc(l, func(x, y group) int { return labels.Compare(x.labels, y.labels) })
	var out Batch
	for _, x := range l {
		out = out.with(x.labels, r.one(x.C, err))
	}
	return out
}

// one puts columns together.
func (r *run) one(l []window.Column, err api.Errno) window.Column {
	if len(l) == 1 {
		return l[0]
	}
	one := blank(len(l[0].Has))
	for _, c := range l {
		for i, has := range c.Has {
			if !has {
				continue
			}
			if one.Has[i] {
				r.fail(i, err)
			}
			one.V[i], one.Has[i] = c.V[i], true
		}
	}
	return one
}
