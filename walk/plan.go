package walk

import (
	"isobar/api"
	"isobar/ir"
	"isobar/match"
	"isobar/store"
)

// walker is what a plan is asked of, and how many points a vector of it may have.
type walker struct {
	store *store.Store
	most  int
}

// plan is a node, with the series that its matchers select: they are the same at all times, and so are found once.
type plan struct {
	node  ir.Node
	found []source
	kids  []*plan
}

// source is one of the store's series, by its number.
type source struct {
	number int
	labels []api.Label
}

// laid answers a plan that may be asked at any time, and who asks it; or what keeps it from being asked at all.
func laid(n ir.Node, s *store.Store, most int) (walker, *plan, api.Errno) {
	if most < 1 || most > mostPoints {
		return walker{}, nil, api.ErrArg
	}
	if _, err := ir.Check(n); err != api.OK {
		return walker{}, nil, err
	}
	return walker{store: s, most: most}, planOf(n, s), api.OK
}

// planOf lays a plan that ir.Check takes.
func planOf(n ir.Node, s *store.Store) *plan {
	p := &plan{node: n}
	if n.Kind == ir.Select || n.Kind == ir.Window {
		p.found = selected(n.M, s)
	}
	for _, kid := range n.Kids {
		p.kids = append(p.kids, planOf(kid, s))
	}
	return p
}

// selected answers the series that match.
func selected(m []api.Matcher, s *store.Store) []source {
	set, _ := match.New(m...) // they were checked with the plan
	var l []source
	for _, i := range s.Select(set) {
		x, _ := s.Series(i)
		l = append(l, source{number: i, labels: x.L})
	}
	return l
}
