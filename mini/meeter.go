package mini

import "milestone/api"

// meeter numbers states as they are met.
type meeter struct {
	number []int // of each state which number it was given; -1: it was not met
	states []int // those that were met
}

func newMeeter(many int) *meeter {
	m := &meeter{number: make([]int, many)}
	for state := range m.number {
		m.number[state] = -1
	}
	return m
}

// meet is the state's number: a new one, if it was not met before.
func (m *meeter) meet(state int) int {
	if m.number[state] < 0 {
		m.number[state] = len(m.states)
		m.states = append(m.states, state)
	}
	return m.number[state]
}

// met is d without the states that no word leads to, the others numbered as they are met from 0.
func met(d api.Dfa) api.Dfa {
	m := newMeeter(len(d.Next))
	m.meet(0)
	var whole api.Dfa
	for at := 0; at < len(m.states); at++ {
		state := m.states[at]
		whole.Next = append(whole.Next, renumbered(d.Next[state], m.meet))
		whole.Accept = append(whole.Accept, d.Accept[state])
	}
	return whole
}

// renumbered is the row with the numbers that its states have by number; it asks mode by mode.
func renumbered(row [api.Modes]int, number func(state int) int) [api.Modes]int {
	for mode, state := range row {
		row[mode] = number(state)
	}
	return row
}
