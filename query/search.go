package query

import (
	"slices"

	"milestone/api"
	"milestone/hier"
	"milestone/queue"
)

// step is how a place was reached: by which arc, from which place, by its number.
type step struct{ arc, from int }

// search goes from place to place, those of the least cost first. In its tables a place is a number.
type search struct {
	index  api.Index
	accept []bool
	leads  direction
	begin  int          // the place where ways begin
	line   *queue.Queue // places that were reached, but that it did not come to yet
	behind []bool       // of each place, whether it came to it
	last   []step       // of each place that was reached, the step by which it was at the least cost so far

	at  place // where it is
	far int   // at which cost
}

func newSearch(x api.Index, d api.Dfa, from int) *search {
	places := x.Net.N * len(d.Next) * len(slopes())
	s := &search{
		index:  x,
		accept: d.Accept,
		leads:  onward(x, d),
		line:   queue.New(places),
		behind: make([]bool, places),
		last:   make([]step, places),
	}
	s.begin = s.number(place{vertex: from})
	s.line.Put(s.begin, 0)
	return s
}

func (s *search) number(p place) int {
	return (p.slope*s.index.Net.N+p.vertex)*len(s.accept) + p.state
}

func (s *search) place(number int) place {
	states, vertices := len(s.accept), s.index.Net.N
	row := number / states
	return place{vertex: row % vertices, state: number % states, slope: row / vertices}
}

// arrive comes to the next place where a way may end, as the machine accepts; false, if none is left.
func (s *search) arrive() bool {
	for s.next() {
		if s.accept[s.at.state] {
			return true
		}
	}
	return false
}

// next comes to the place of the least cost of those that are left; false, if none is.
func (s *search) next() bool {
	here, far, is := s.line.Pop()
	if !is {
		return false
	}
	s.at, s.far, s.behind[here] = s.place(here), far, true
	s.leads(s.at, func(to place, by int) {
		there := s.number(to)
		if !s.behind[there] && s.line.Put(there, far+s.index.Arcs[by].Cost) {
			s.last[there] = step{by, here}
		}
	})
	return true
}

// edges are those that the arcs stand for by which it came where it is.
func (s *search) edges() []int {
	var arcs []int
	for i := s.number(s.at); i != s.begin; i = s.last[i].from {
		arcs = append(arcs, s.last[i].arc)
	}
	var edges []int
	for _, i := range slices.Backward(arcs) {
		edges = append(edges, hier.Unpack(s.index, i)...)
	}
	return edges
}
