package query

import "milestone/api"

// hill is the arcs of an index, found where they begin.
type hill struct {
	arcs     []api.Arc
	up, down [][]int
}

func newHill(x api.Index) *hill {
	return &hill{arcs: x.Arcs, up: x.Up, down: turned(x)}
}

// turned tells of each vertex which arcs of Down lead from it, as Down tells which lead to it.
func turned(x api.Index) [][]int {
	rows := make([][]int, x.Net.N)
	for _, row := range x.Down {
		for _, i := range row {
			v := x.Arcs[i].From
			rows[v] = append(rows[v], i)
		}
	}
	return rows
}

func (h *hill) rising(v int) []int { return h.up[v] }

func (h *hill) falling(v int) []int { return h.down[v] }

// slope tells the arcs from a vertex by which a way goes while it is on that slope.
type slope func(h *hill, v int) []int

// slopes are in the order in which a way goes by them.
func slopes() []slope {
	return []slope{(*hill).rising, (*hill).falling}
}

// place is a vertex, the state that the machine is in there, and the slope that the way is on: what it may still become hangs on all three.
type place struct{ vertex, state, slope int }

// direction hands take each place to which one arc leads from a place, and that arc's number.
type direction func(from place, take func(to place, by int))

// onward leads by arcs, each of them one step of d: those of the slope that a place is on, and of such as come behind it, never back.
func onward(x api.Index, d api.Dfa) direction {
	h, order := newHill(x), slopes()
	return func(from place, take func(place, int)) {
		row := d.Next[from.state]
		for ahead, arcs := range order[from.slope:] {
			for _, i := range arcs(h, from.vertex) {
				a := h.arcs[i]
				take(place{a.To, row[a.Mode], from.slope + ahead}, i)
			}
		}
	}
}
