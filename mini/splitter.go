package mini

import "milestone/api"

// sign is what states are told apart by: those of one class with signs that are equal stay in one class.
type sign [1 + api.Modes]int

// splitter splits the states of a machine into classes, until no word tells those of one class apart.
type splitter struct {
	d     api.Dfa // its states are numbered as they are met from 0
	class []int   // of each state which class it is in
	first []int   // of each class its first state: classes are numbered by these, so that they, too, are numbered as they are met
}

func newSplitter(d api.Dfa) *splitter {
	return &splitter{d: d, class: make([]int, len(d.Next))}
}

// splitAll goes on until a split makes no class more: none would from there on.
func (s *splitter) splitAll() {
	s.split(s.ends)
	for classes := 0; classes < len(s.first); {
		classes = len(s.first)
		s.split(s.leads)
	}
}

// split makes a class of all states that have one sign.
func (s *splitter) split(by func(state int) sign) {
	known := make(map[sign]int, len(s.first))
	class := make([]int, len(s.class))
	s.first = nil
	for state := range class {
		told := by(state)
		which, is := known[told]
		if !is {
			which = len(s.first)
			known[told] = which
			s.first = append(s.first, state)
		}
		class[state] = which
	}
	s.class = class
}

// ends is the sign by which the word of no mode tells states apart.
func (s *splitter) ends(state int) sign {
	if s.d.Accept[state] {
		return sign{1}
	}
	return sign{0}
}

// leads is the sign by which words of one mode more than before tell states apart.
func (s *splitter) leads(state int) sign {
	told := sign{s.class[state]}
	for mode, to := range s.d.Next[state] {
		told[1+mode] = s.class[to]
	}
	return told
}

// classOf is which class the state is in.
func (s *splitter) classOf(state int) int {
	return s.class[state]
}

// least is the machine whose states are the classes.
func (s *splitter) least() api.Dfa {
	var d api.Dfa
	for _, state := range s.first {
		d.Next = append(d.Next, renumbered(s.d.Next[state], s.classOf))
		d.Accept = append(d.Accept, s.d.Accept[state])
	}
	return d
}
