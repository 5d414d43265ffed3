package product

import (
	"testing"

	"milestone/api"
)

// taken counts the places that a search came to.
func taken(s *search) *int {
	count := new(int)
	leads := s.leads
	s.leads = func(from place, take func(place, int)) {
		*count++
		leads(from, take)
	}
	return count
}

// plane is a network of five by twelve vertices, each with edges to those beside it.
func plane() api.Net {
	n := api.Net{N: 60}
	for v := range 60 {
		for _, w := range []int{v - 5, v + 5, v - 1, v + 1} {
			if w >= 0 && w < 60 && (w/5 == v/5 || w%5 == v%5) {
				n.Edges = append(n.Edges, api.Edge{From: v, To: w, Cost: 1})
			}
		}
	}
	return n
}

// P901: Both comes from both sides, and not all the way from either.
func TestP901BothFromBothSides(t *testing.T) {
	n, d := plane(), api.Dfa{Next: make([][api.Modes]int, 1), Accept: []bool{true}}
	one, two := ahead(n, d, 0), back(n, d, 59)
	ones, twos := taken(one), taken(two)
	if cost, is := meet(one, two); !is || cost != 15 {
		t.Errorf("%d, %v, not 15", cost, is)
	}
	if one.far > 8 || two.far > 8 || one.far+two.far < 15 || *ones > 40 || *twos > 40 {
		t.Errorf("%d places, as far as %d, and %d, as far as %d", *ones, one.far, *twos, two.far)
	}
}

// Where one side has nothing to go on with, the other one does not go on alone.
func TestP901BothEndsWithTheSideThatIsDone(t *testing.T) {
	n, d := plane(), api.Dfa{Next: make([][api.Modes]int, 1), Accept: []bool{true}}
	for i := range n.Edges {
		if n.Edges[i].To == 59 {
			n.Edges[i].To = 58
		}
	}
	one, two := ahead(n, d, 0), back(n, d, 59)
	ones, twos := taken(one), taken(two)
	if cost, is := meet(one, two); is || cost != 0 {
		t.Errorf("%d, %v, not none", cost, is)
	}
	if *ones > 2 || *twos != 1 {
		t.Errorf("%d and %d places", *ones, *twos)
	}
}

// Onward and backward are the same edges, there and back.
func TestP901BackwardIsOnwardTurned(t *testing.T) {
	n := plane()
	d := api.Dfa{Next: [][api.Modes]int{{1, 2, 0, 0, 2}, {1, 1, 1, 1, 1}, {0, 0, 1, 2, 2}}, Accept: make([]bool, 3)}
	for i := range n.Edges {
		n.Edges[i].Mode = i % api.Modes
	}
	type step struct {
		from, to place
		by       int
	}
	steps := make(map[step]int)
	on, back := onward(n, d), backward(n, d)
	for v := range n.N {
		for state := range d.Next {
			here := place{v, state}
			on(here, func(to place, by int) { steps[step{here, to, by}]++ })
			back(here, func(to place, by int) { steps[step{to, here, by}] += 1000 })
		}
	}
	for s, count := range steps {
		if count != 1001 {
			t.Errorf("%v: %d", s, count)
		}
	}
	if len(steps) != 3*len(n.Edges) {
		t.Errorf("%d steps", len(steps))
	}
}
