package product

import (
	"slices"

	"milestone/api"
	"milestone/queue"
)

// search goes from place to place, those of the least cost first. In its tables a place is a number.
type search struct {
	edges  []api.Edge
	leads  direction
	states int
	line   *queue.Queue // places that were reached, but that it did not come to yet
	cost   []int        // of each place, the least cost at which it was reached so far; -1: it was not
	by     []int        // of each place that was reached, the edge by which it was; -1: it is one to begin with
	before []int        // the place that this edge leads from

	at  place // where it is
	far int   // at which cost: all places that cost less are behind it
}

// ahead searches from where walks begin.
func ahead(n api.Net, d api.Dfa, from int) *search {
	s := newSearch(n, d, onward(n, d))
	s.begin(place{from, 0})
	return s
}

// back searches from where walks end, in any state that accepts.
func back(n api.Net, d api.Dfa, to int) *search {
	s := newSearch(n, d, backward(n, d))
	for state, is := range d.Accept {
		if is {
			s.begin(place{to, state})
		}
	}
	return s
}

func newSearch(n api.Net, d api.Dfa, leads direction) *search {
	places := n.N * len(d.Next)
	return &search{
		edges:  n.Edges,
		leads:  leads,
		states: len(d.Next),
		line:   queue.New(places),
		cost:   nones(places),
		by:     nones(places),
		before: nones(places),
	}
}

// nones is a row of -1.
func nones(many int) []int {
	return slices.Repeat([]int{-1}, many)
}

func (s *search) number(p place) int {
	return p.vertex*s.states + p.state
}

func (s *search) place(number int) place {
	return place{number / s.states, number % s.states}
}

// begin makes p one of the places to begin with.
func (s *search) begin(p place) {
	s.cost[s.number(p)] = 0
	s.line.Put(s.number(p), 0)
}

// next comes to the place of the least cost of those that are left; false, if none is.
func (s *search) next() bool {
	here, far, is := s.line.Pop()
	if !is {
		return false
	}
	s.at, s.far = s.place(here), far
	s.leads(s.at, func(to place, by int) {
		there, cost := s.number(to), far+s.edges[by].Cost
		if was := s.cost[there]; was < 0 || cost < was {
			s.cost[there], s.by[there], s.before[there] = cost, by, here
			s.line.Put(there, cost)
		}
	})
	return true
}

// edgesTo is the edges that led to p, of a search ahead.
func (s *search) edgesTo(p place) []int {
	var edges []int
	for i := s.number(p); s.by[i] >= 0; i = s.before[i] {
		edges = append(edges, s.by[i])
	}
	slices.Reverse(edges)
	return edges
}

// meet tells the least cost of a walk from where one search began to where the other did; false, if there is none. They go by turns, so that neither goes on alone where the other one is soon done.
func meet(one, two *search) (least int, is bool) {
	for side, other := one, two; side.next(); side, other = other, side {
		rest := other.cost[other.number(side.at)]
		if rest >= 0 && (!is || side.far+rest < least) {
			least, is = side.far+rest, true
		}
		// Of a walk that costs less, each place would be behind one search or the other, and the later one would have come to where the earlier one had reached.
		if is && side.far+other.far >= least {
			break
		}
	}
	return least, is
}
