package query_test

import (
	"slices"

	"milestone/api"
	"milestone/hier"
)

// dice throws the same numbers each time.
type dice uint64

func (d *dice) below(n int) int {
	*d = *d*6364136223846793005 + 1442695040888963407
	return int(uint64(*d)>>33) % n
}

// shuffle puts a list in any order.
func shuffle[T any](d *dice, list []T) {
	for i := len(list) - 1; i > 0; i-- {
		k := d.below(i + 1)
		list[i], list[k] = list[k], list[i]
	}
}

// anyCost is small mostly, so that ways cost the same; now and then it is one of the greatest.
func (d *dice) anyCost() int {
	if d.below(20) == 0 {
		return api.MaxCost - d.below(3)
	}
	return d.below(1 + d.below(30))
}

// anyNet is a network of so many vertices and edges. Its vertices lie in regions, each with a mode of its own, so that most of them go; now and then an edge is of another mode, rarely or often.
func (d *dice) anyNet(vertices, edges int) api.Net {
	n := api.Net{N: vertices}
	regions, rare := 1+d.below(3), 2+d.below(edges+1)
	for range edges {
		e := api.Edge{From: d.below(vertices), To: d.below(vertices), Cost: d.anyCost()}
		if d.below(4) > 0 {
			e.To = e.From - e.From%regions + d.below(regions)
			e.To = (e.To + regions*d.below(vertices)) % vertices
		}
		e.Mode = e.From % regions
		if d.below(rare) == 0 {
			e.Mode = d.below(api.Modes)
		}
		n.Edges = append(n.Edges, e)
	}
	return n
}

// anyMachine is one of so many states; one in a few of them accepts.
func (d *dice) anyMachine(states int) api.Dfa {
	m := sized(states)
	rare := 1 + d.below(4)
	for state := range states {
		for mode := range api.Modes {
			m.Next[state][mode] = d.below(states)
		}
		m.Accept[state] = d.below(rare) == 0
	}
	return m
}

// anySteady is a machine that is steady: each mode leads to some states alone, and from each of these to itself.
func (d *dice) anySteady(states int) api.Dfa {
	m := d.anyMachine(states)
	for mode := range api.Modes {
		var ends []int
		rare := 1 + d.below(4)
		for state := range states {
			if d.below(rare) == 0 {
				ends = append(ends, state)
			}
		}
		if len(ends) == 0 {
			ends = []int{d.below(states)}
		}
		for state := range states {
			m.Next[state][mode] = ends[d.below(len(ends))]
		}
		for _, state := range ends {
			m.Next[state][mode] = state
		}
	}
	return m
}

// several is a machine of so many states, each of which stands for one of m's: state for state % as many as there are. A mode leads from all that stand for one state to one that stands for where m's leads, and stays there, so that it is steady if m is.
func (d *dice) several(m api.Dfa, states int) api.Dfa {
	one := sized(states)
	least := len(m.Next)
	for mode := range api.Modes {
		stands := make([]int, least)
		for state := range stands {
			stands[state] = state + least*d.below((states-state+least-1)/least)
		}
		for state := range states {
			one.Next[state][mode] = stands[m.Next[state%least][mode]]
		}
	}
	for state := range states {
		one.Accept[state] = m.Accept[state%least]
	}
	return one
}

// anyIndex is one that hier.Check allows, but hier.Build did not build: of any order, with any arcs, of which some are in lists.
func (d *dice) anyIndex(n api.Net) api.Index {
	x := api.Index{Net: n, Rank: slices.Repeat([]int{-1}, n.N), Up: make([][]int, n.N), Down: make([][]int, n.N)}
	vertices := make([]int, n.N)
	for v := range vertices {
		vertices[v] = v
	}
	shuffle(d, vertices)
	for rank, v := range vertices[d.below(n.N+1):] {
		x.Rank[v] = rank
	}
	d.addArcs(&x)
	rare := 1 + d.below(3)
	for i, a := range x.Arcs {
		from, to := height(x, a.From), height(x, a.To)
		if to >= from && d.below(rare) == 0 {
			x.Up[a.From] = append(x.Up[a.From], i)
		}
		if from > to && d.below(rare) == 0 {
			x.Down[a.To] = append(x.Down[a.To], i)
		}
	}
	for v := range n.N {
		shuffle(d, x.Up[v])
		shuffle(d, x.Down[v])
	}
	return x
}

// addArcs puts arcs of edges and of arcs behind one another.
func (d *dice) addArcs(x *api.Index) {
	for range d.below(60) {
		if many := len(x.Arcs); many > 0 && d.below(3) > 0 {
			a, b := d.below(many), d.below(many)
			one, two := x.Arcs[a], x.Arcs[b]
			if one.To == two.From && one.Mode == two.Mode && len(hier.Unpack(*x, a))+len(hier.Unpack(*x, b)) < 200 {
				x.Arcs = append(x.Arcs, api.Arc{From: one.From, To: two.To, Mode: one.Mode, Cost: one.Cost + two.Cost, Edge: -1, A: a, B: b})
			}
		} else if edges := len(x.Net.Edges); edges > 0 {
			i := d.below(edges)
			e := x.Net.Edges[i]
			x.Arcs = append(x.Arcs, api.Arc{From: e.From, To: e.To, Mode: e.Mode, Cost: e.Cost, Edge: i})
		}
	}
}

// height is a vertex's rank; those that stay are above all ranks.
func height(x api.Index, v int) int {
	if x.Rank[v] == -1 {
		return x.Net.N
	}
	return x.Rank[v]
}
