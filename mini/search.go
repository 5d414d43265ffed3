package mini

import (
	"slices"

	"milestone/api"
)

// pair is a state of each of two machines, to which one word leads.
type pair struct {
	one, two int
	from     int // the pair that the word led to but for its last mode; -1: it has none
	mode     int // its last mode
}

// search looks for a word that tells two machines apart. It meets pairs in the order of their words: shorter ones first, else by their modes.
type search struct {
	a, b  api.Dfa
	pairs []pair
	// Of each state of a, then of each of b, one that it is linked to by pairs; itself, if it is the one that stands for all that are linked.
	// What tells apart two states that are linked tells apart a pair that links them. That one's word is an earlier one, so the first word is not missed where a pair of linked states is not met.
	links []int
}

func newSearch(a, b api.Dfa) *search {
	s := &search{a: a, b: b, links: make([]int, len(a.Next)+len(b.Next))}
	for state := range s.links {
		s.links[state] = state
	}
	s.meet(pair{from: -1})
	return s
}

// find goes from pair to pair until just one of the two accepts; false: there is no such pair.
func (s *search) find() (at int, is bool) {
	for at = 0; at < len(s.pairs); at++ {
		p := s.pairs[at]
		if s.a.Accept[p.one] != s.b.Accept[p.two] {
			return at, true
		}
		for mode := range api.Modes {
			s.meet(pair{s.a.Next[p.one][mode], s.b.Next[p.two][mode], at, mode})
		}
	}
	return 0, false
}

// meet takes the pair up, unless its two states are linked.
func (s *search) meet(p pair) {
	one, two := s.head(p.one), s.head(len(s.a.Next)+p.two)
	if one != two {
		s.links[one] = two
		s.pairs = append(s.pairs, p)
	}
}

// head is the one that stands for all that the state is linked to. The way to it is made shorter, for those that ask next.
func (s *search) head(state int) int {
	for s.links[state] != state {
		s.links[state] = s.links[s.links[state]]
		state = s.links[state]
	}
	return state
}

// word is the word that leads to this pair.
func (s *search) word(at int) []int {
	var word []int
	for p := s.pairs[at]; p.from >= 0; p = s.pairs[p.from] {
		word = append(word, p.mode)
	}
	slices.Reverse(word)
	return word
}
