package product

import "milestone/api"

// place is a vertex, and the state that the machine is in there: what a walk may still become hangs on both.
type place struct{ vertex, state int }

// direction hands take each place to which one edge leads from a place, and that edge's number.
type direction func(from place, take func(to place, by int))

// edge is an api.Edge with methods, which package api, given whole, doesn't take.
type edge api.Edge

func (e edge) from() int { return e.From }

func (e edge) to() int { return e.To }

// onward leads as edges and modes do.
func onward(n api.Net, d api.Dfa) direction {
	edges := gather(n, edge.from)
	return func(from place, take func(place, int)) {
		row := d.Next[from.state]
		for _, i := range edges[from.vertex] {
			e := n.Edges[i]
			take(place{e.To, row[e.Mode]}, i)
		}
	}
}

// backward leads against edges and modes, to each place from which onward leads here.
func backward(n api.Net, d api.Dfa) direction {
	edges, states := gather(n, edge.to), gatherStates(d)
	return func(from place, take func(place, int)) {
		row := states[from.state]
		for _, i := range edges[from.vertex] {
			e := n.Edges[i]
			for _, state := range row[e.Mode] {
				take(place{e.From, state}, i)
			}
		}
	}
}

// gather tells of each vertex which edges have this end there.
func gather(n api.Net, end func(edge) int) [][]int {
	gathered := make([][]int, n.N)
	for i, e := range n.Edges {
		v := end(edge(e))
		gathered[v] = append(gathered[v], i)
	}
	return gathered
}

// gatherStates tells of each state from which states each mode leads to it.
func gatherStates(d api.Dfa) [][api.Modes][]int {
	gathered := make([][api.Modes][]int, len(d.Next))
	for state, row := range d.Next {
		for mode, to := range row {
			gathered[to][mode] = append(gathered[to][mode], state)
		}
	}
	return gathered
}
