package match

import (
	"milestone/api"
	"milestone/regex"
)

// machine goes once along a word, in all of its states at a time to which what it has read may lead. That is quick, however long the word is; but what stands several times in an expression has states for each time.
type machine struct {
	states     []state
	start, end int
}

// state leads on by a mode of its set; if that has none, by no mode.
type state struct {
	set int
	to  []int
}

func newMachine(n api.Node) *machine {
	m := &machine{}
	m.end = m.fork()
	m.start = m.write(n, m.end)
	return m
}

func (m *machine) add(s state) int {
	m.states = append(m.states, s)
	return len(m.states) - 1
}

// fork adds a state that leads to all of these.
func (m *machine) fork(to ...int) int {
	return m.add(state{to: to})
}

// write adds the states of n, ahead of next, and tells which one is to be gone to first.
func (m *machine) write(n api.Node, next int) int {
	switch n.Kind {
	case api.KSet:
		return m.add(state{n.Set, []int{next}})
	case api.KNone:
		return next
	case api.KJoin:
		for i := len(n.L) - 1; i >= 0; i-- {
			next = m.write(n.L[i], next)
		}
		return next
	case api.KUnion:
		return m.fork(m.writeEach(n.L, next)...)
	case api.KStar:
		loop, _ := m.writeLoop(n.L[0], next)
		return loop
	case api.KPlus:
		_, first := m.writeLoop(n.L[0], next)
		return first
	case api.KMaybe:
		return m.fork(m.write(n.L[0], next), next)
	case api.KRepeat:
		return m.writeTimes(n, next)
	}
	return m.fork() // of nothing: no way leads on
}

func (m *machine) writeEach(parts []api.Node, next int) (firsts []int) {
	for _, part := range parts {
		firsts = append(firsts, m.write(part, next))
	}
	return firsts
}

// writeLoop adds a fork that leads to next, and to n, which leads back to the fork; first is n's.
func (m *machine) writeLoop(n api.Node, next int) (loop, first int) {
	loop = m.fork()
	first = m.write(n, loop)
	m.states[loop].to = []int{first, next}
	return loop, first
}

// writeTimes adds what n repeats Hi times, the last one first; ahead of each that may be lacking a way leads past it, and so past all behind it.
func (m *machine) writeTimes(n api.Node, next int) int {
	first := next
	for time := n.Hi; time >= 1; time-- {
		first = m.write(n.L[0], first)
		if time > n.Lo {
			first = m.fork(first, next)
		}
	}
	return first
}

func (m *machine) takes(word []int) bool {
	w := &walk{states: m.states, place: 1, met: make([]int, len(m.states))}
	w.meet(m.start)
	w.goOn()
	for _, mode := range word {
		w.read(mode)
	}
	return w.met[m.end] == w.place
}

// walk is where a machine is.
type walk struct {
	states []state
	in     []int // the states it is in
	spare  []int // memory for those it goes to next
	place  int   // counted from 1
	met    []int // of each state the last place where it was met
}

// meet puts the machine in these states too.
func (w *walk) meet(states ...int) {
	for _, s := range states {
		if w.met[s] != w.place {
			w.met[s] = w.place
			w.in = append(w.in, s)
		}
	}
}

// goOn meets all to which no mode need lead.
func (w *walk) goOn() {
	for i := 0; i < len(w.in); i++ {
		if s := w.states[w.in[i]]; s.set == 0 {
			w.meet(s.to...)
		}
	}
}

func (w *walk) read(mode int) {
	from := w.in
	w.in, w.spare = w.spare[:0], from
	w.place++
	for _, at := range from {
		if s := w.states[at]; s.set>>mode&1 == 1 {
			w.meet(s.to...)
		}
	}
	w.goOn()
}

// manyPlaces are as many as count in room: a machine is made anew in each call, and should not become much larger than what it is made of.
const manyPlaces = 1 << 10

// room is how many states a machine of n may have: about as many as the tables would have bytes, if a word of so many modes were parted.
func room(n api.Node, modes int) int {
	places := min(modes+1, manyPlaces)
	size := regex.Size(n)
	return size + min(size*places*places/8, manyPlaces*manyPlaces)
}

// roomLeft is what is left of the room when n's states are in it; less than 0, if there is not enough.
func roomLeft(n api.Node, room int) int {
	room--
	times := 1
	if n.Kind == api.KRepeat {
		times = n.Hi
	}
	for range times {
		for _, part := range n.L {
			if room < 0 {
				return room
			}
			room = roomLeft(part, room)
		}
	}
	return room
}
