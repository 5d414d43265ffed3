package dfa

import (
	"slices"

	"milestone/api"
	"milestone/nfa"
)

// maker makes a machine whose states are sets of the states of a machine of many ways.
type maker struct {
	free  api.Nfa          // the machine of many ways, without its Steps: Close asks for none
	leads [][api.Modes]set // of each of its states where each mode leads from it, closed; nil is to none
	met   set              // memory for where a mode leads, used again and again
	sets  []set            // of each state that was met, which set it is
	known []known          // the same ones, in the order of their sets
	next  [][api.Modes]int // of each state that is done, where each mode leads
}

func newMaker(n api.Nfa) *maker {
	m := &maker{
		free:  api.Nfa{N: n.N, Free: n.Free},
		leads: make([][api.Modes]set, n.N),
		met:   newSet(n.N),
	}
	closed := make([]set, n.N)
	for _, step := range n.Steps {
		if closed[step.To] == nil {
			closed[step.To] = m.close(step.To)
		}
		m.addLead(step, closed[step.To])
	}
	return m
}

// close is Close of this state alone. That of several is these of each together, so that each state is closed but once.
func (m *maker) close(state int) set {
	s := newSet(m.free.N)
	for _, to := range nfa.Close(m.free, []int{state}) {
		s.add(to)
	}
	return s
}

func (m *maker) addLead(step api.Step, to set) {
	leads := &m.leads[step.From]
	for mode := range leads {
		if step.Set>>mode&1 == 1 {
			leads[mode] = leads[mode].with(to)
		}
	}
}

// begin meets the first state.
func (m *maker) begin(start int) {
	m.state(m.close(start))
}

// grow goes on from state to state until no new one is met; false, if more than most are.
func (m *maker) grow(most int) bool {
	for at := 0; at < len(m.sets); at++ {
		var row [api.Modes]int
		for mode := range row {
			m.lead(at, mode)
			row[mode] = m.state(m.met)
			if len(m.sets) > most {
				return false
			}
		}
		m.next = append(m.next, row)
	}
	return true
}

// lead puts together where the mode leads from this state.
func (m *maker) lead(at, mode int) {
	clear(m.met)
	for from := range m.sets[at].states {
		m.met.join(m.leads[from][mode])
	}
}

// state is which state the set is: a new one, if it was not met before.
func (m *maker) state(s set) int {
	at, is := slices.BinarySearchFunc(m.known, s, known.compare)
	if is {
		return m.known[at].state
	}
	kept := make(set, len(s))
	copy(kept, s)
	one := known{kept, len(m.sets)}
	m.sets = append(m.sets, kept)
	m.known = slices.Insert(m.known, at, one)
	return one.state
}

// accept tells of each state whether its set has the end.
func (m *maker) accept(end int) []bool {
	accept := make([]bool, len(m.sets))
	for i, s := range m.sets {
		accept[i] = s.has(end)
	}
	return accept
}
