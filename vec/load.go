package vec

import (
	"slices"

	"isobar/api"
	"isobar/ir"
	"isobar/match"
	"isobar/stamp"
	"isobar/store"
	"isobar/window"
)

const hands = 8 // goroutines that make columns side by side, at most

// timesOf answers the points of a grid.
func timesOf(g api.Grid) []int {
	times := make([]int, stamp.Points(g))
	for i := range times {
		times[i] = g.Start + i*g.Step
	}
	return times
}

// gridOf answers the grid that has just these points, one at least, if there is one.
func gridOf(times []int) (api.Grid, bool) {
	g := api.Grid{Start: times[0], End: times[len(times)-1], Step: 1}
	for i, t := range times {
		if i == 1 {
			g.Step = t - g.Start
		}
		if i > 1 && t-times[i-1] != g.Step {
			return api.Grid{}, false
		}
	}
	return g, stamp.Check(g) == api.OK
}

// source is a store, and what was found in it: a Sub asks its kid again and again, always for the same series.
type source struct {
	store *store.Store
	found map[string][]origin // by the texts of matchers
}

// origin is one of the store's series, by its number.
type origin struct {
	number int
	labels []api.Label
}

func sourceOf(s *store.Store) *source {
	return &source{store: s, found: map[string][]origin{}}
}

// find answers the series that match.
func (s *source) find(m []api.Matcher) []origin {
	key := ""
	for _, x := range m {
		key += match.Text(x)
	}
	l, known := s.found[key]
	if known {
		return l
	}
	set, _ := match.New(m...) // they were checked with the plan
	for _, i := range s.store.Select(set) {
		x, _ := s.store.Series(i)
		l = append(l, origin{number: i, labels: x.L})
	}
	s.found[key] = l
	return l
}

// load answers the labels of the series that a Select, or a Window, selects, and their values at all times, of
// which there is one at least.
func (s *source) load(n *ir.Node, times []int) Batch {
	var b Batch
	l := s.find(n.M)
	for _, x := range l {
		b.L = append(b.L, x.labels)
	}
	if n.Kind == ir.Select {
		b.C = s.lasts(l, n.Offset, times)
	} else {
		b.C = slideOf(n, times).over(s.pieces(l, times[0]-n.Offset-n.Range, times[len(times)-1]-n.Offset))
	}
	return b
}

// lasts answers the series' last values as long ahead of times as offset tells.
func (s *source) lasts(l []origin, offset int, times []int) []window.Column {
	var columns []window.Column
	for _, x := range l {
		c := blank(len(times))
		for i, t := range times {
			c.V[i], c.Has[i] = s.store.Last(x.number, t-offset, api.Lookback)
		}
		columns = append(columns, c)
	}
	return columns
}

// pieces answers the series' samples of a stretch of time.
func (s *source) pieces(l []origin, from, to int) [][]api.Sample {
	var pieces [][]api.Sample
	for _, x := range l {
		pieces = append(pieces, s.store.Range(x.number, from, to))
	}
	return pieces
}

// slide is a function of stretches of so many milliseconds that end as long ahead of times as offset tells.
type slide struct {
	fn, length, offset int
	times              []int
}

func slideOf(n *ir.Node, times []int) slide {
	return slide{fn: n.Fn, length: n.Range, offset: n.Offset, times: times}
}

// over answers a column of each piece. Goroutines make them, each of pieces that nobody else has any more, and
// hand them over a channel of their own: so they come in the order of the pieces, however the goroutines run.
func (x slide) over(pieces [][]api.Sample) []window.Column {
	var all []chan window.Column
	for share := range slices.Chunk(pieces, len(pieces)/hands+1) {
		made := make(chan window.Column, len(share))
		all = append(all, made)
		x.times = slices.Clone(x.times) // they share nothing
		go x.hand(share, made)
	}
	var l []window.Column
	for _, made := range all {
		for c := range made {
			l = append(l, c)
		}
	}
	return l
}

// hand sends a column of each piece, and then no more.
func (x slide) hand(pieces [][]api.Sample, made chan<- window.Column) {
	g, even := gridOf(x.times)
	for _, piece := range pieces {
		if even {
			c, _ := window.Slide(x.fn, piece, g, x.length, x.offset)
			made <- c
		} else {
			made <- x.column(piece)
		}
	}
	close(made)
}

// column answers what window.Slide does, at times that are no grid's: a Sub's leave gaps, or lie beyond all that
// a grid may have.
func (x slide) column(piece []api.Sample) window.Column {
	c := blank(len(x.times))
	for i, t := range x.times {
		c.V[i], c.Has[i] = window.Fn(x.fn, piece, t-x.offset-x.length, t-x.offset)
	}
	return c
}
