package nfa

import "milestone/api"

// count is how many states n's machine has; of those that would be too large just one more than may be, as times within times could lead beyond any number.
func count(n api.Node) int {
	states := 2
	if n.Kind == api.KJoin {
		states = 0
	}
	times := 1
	if n.Kind == api.KRepeat {
		times = n.Hi
	}
	for _, part := range n.L {
		states = min(states+times*count(part), api.MaxStates+1)
	}
	return states
}

// maker makes a machine, part by part.
type maker struct {
	made api.Nfa
}

// part is what is made of an expression: the states s, e, and all between them.
type part struct {
	s, e int
}

func (m *maker) state() int {
	m.made.N++
	return m.made.N - 1
}

func (m *maker) free(from, to int) {
	m.made.Free = append(m.made.Free, [2]int{from, to})
}

func (m *maker) part(n api.Node) part {
	return m.by(n.Kind)(n)
}

// by is what makes a part of this kind.
func (m *maker) by(kind int) func(n api.Node) part {
	switch kind {
	case api.KSet:
		return m.set
	case api.KNone:
		return m.none
	case api.KJoin:
		return m.join
	case api.KUnion:
		return m.union
	case api.KStar, api.KPlus, api.KMaybe:
		return m.loop
	case api.KRepeat:
		return m.repeat
	}
	return m.empty
}

func (m *maker) empty(api.Node) part {
	s := m.state()
	return part{s, m.state()}
}

func (m *maker) none(n api.Node) part {
	p := m.empty(n)
	m.free(p.s, p.e)
	return p
}

func (m *maker) set(n api.Node) part {
	p := m.empty(n)
	m.made.Steps = append(m.made.Steps, api.Step{From: p.s, To: p.e, Set: n.Set})
	return p
}

func (m *maker) each(l []api.Node) []part {
	parts := make([]part, len(l))
	for i, n := range l {
		parts[i] = m.part(n)
	}
	return parts
}

func (m *maker) join(n api.Node) part {
	parts := m.each(n.L)
	whole := parts[0]
	for _, p := range parts[1:] {
		m.free(whole.e, p.s)
		whole.e = p.e
	}
	return whole
}

func (m *maker) union(n api.Node) part {
	s := m.state()
	parts := m.each(n.L)
	e := m.state()
	for _, p := range parts {
		m.free(s, p.s)
		m.free(p.e, e)
	}
	return part{s, e}
}

// loop makes what is taken once, and what may be taken more often, or not at all.
func (m *maker) loop(n api.Node) part {
	s := m.state()
	p := m.part(n.L[0])
	e := m.state()
	m.free(s, p.s)
	if n.Kind != api.KPlus {
		m.free(s, e)
	}
	if n.Kind != api.KMaybe {
		m.free(p.e, p.s)
	}
	m.free(p.e, e)
	return part{s, e}
}

func (m *maker) repeat(n api.Node) part {
	s := m.state()
	parts := m.times(n.L[0], n.Hi)
	e := m.state()
	if n.Hi > 0 {
		m.free(s, parts[0].s)
	}
	for i, p := range parts {
		isLast := i == n.Hi-1
		if isLast || i+1 >= n.Lo {
			m.free(p.e, e)
		}
		if !isLast {
			m.free(p.e, parts[i+1].s)
		}
	}
	if n.Lo == 0 {
		m.free(s, e)
	}
	return part{s, e}
}

// times makes n's part so many times: the first one from n, the others as copies of it.
func (m *maker) times(n api.Node, hi int) []part {
	if hi == 0 {
		return nil
	}
	steps, free := len(m.made.Steps), len(m.made.Free)
	first := m.part(n)
	parts := []part{first}
	one := api.Nfa{N: m.made.N - first.s, Steps: m.made.Steps[steps:], Free: m.made.Free[free:]}
	for time := 1; time < hi; time++ {
		by := time * one.N
		m.again(one, by)
		parts = append(parts, part{first.s + by, first.e + by})
	}
	return parts
}

// again adds a copy of what was made, its states by so much further on.
func (m *maker) again(one api.Nfa, by int) {
	steps, free := make([]api.Step, len(one.Steps)), make([][2]int, len(one.Free))
	copy(steps, one.Steps)
	copy(free, one.Free)
	for i := range steps {
		steps[i].From += by
		steps[i].To += by
	}
	for i := range free {
		free[i][0] += by
		free[i][1] += by
	}
	m.made.N += one.N
	m.made.Steps = append(m.made.Steps, steps...)
	m.made.Free = append(m.made.Free, free...)
}
