package nfa

import "milestone/api"

// walk is where a machine is: in all of the states at a time to which what it has read may lead.
type walk struct {
	steps  [][]api.Step // of each state those from it
	free   [][]int      // of each state to which ones Free lead
	in     []int        // the states it is in, as they were met
	spare  []int        // memory for those it goes to next
	place  int          // counted from 1
	metAt  []int        // of each state the last place where it was met
	states states
}

func newWalk(n api.Nfa) *walk {
	w := &walk{
		steps:  make([][]api.Step, n.N),
		free:   make([][]int, n.N),
		metAt:  make([]int, n.N),
		states: states(n.N),
	}
	for _, s := range n.Steps {
		w.steps[s.From] = append(w.steps[s.From], s)
	}
	for _, f := range n.Free {
		w.free[f[0]] = append(w.free[f[0]], f[1])
	}
	return w
}

// begin puts the machine in these states, closed; numbers that are none do not count.
func (w *walk) begin(at []int) {
	w.place++
	for _, state := range at {
		if !w.states.lack(state) {
			w.meet(state)
		}
	}
	w.close()
}

func (w *walk) meet(state int) {
	if !w.isIn(state) {
		w.metAt[state] = w.place
		w.in = append(w.in, state)
	}
}

func (w *walk) isIn(state int) bool {
	return w.metAt[state] == w.place
}

// close meets all to which Free lead.
func (w *walk) close() {
	for i := 0; i < len(w.in); i++ {
		for _, to := range w.free[w.in[i]] {
			w.meet(to)
		}
	}
}

func (w *walk) read(mode int) {
	from := w.in
	w.in, w.spare = w.spare[:0], from
	w.place++
	for _, state := range from {
		for _, s := range w.steps[state] {
			if s.Set>>mode&1 == 1 {
				w.meet(s.To)
			}
		}
	}
	w.close()
}
