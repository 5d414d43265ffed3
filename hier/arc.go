package hier

import "milestone/api"

// none is the number of no arc and of no edge, and the rank of a vertex that stays.
const none = -1

// arc is an api.Arc with methods, which package api, given whole, doesn't take.
type arc api.Arc

func (a arc) from() int { return a.From }

func (a arc) to() int { return a.To }

// edgeArc is the arc that stands for one edge.
func edgeArc(edges []api.Edge, i int) api.Arc {
	e := edges[i]
	return api.Arc{From: e.From, To: e.To, Mode: e.Mode, Cost: e.Cost, Edge: i}
}

// shortcut is the arc that stands for two arcs, one behind the other.
func shortcut(arcs []api.Arc, a, b int) api.Arc {
	one, two := arcs[a], arcs[b]
	return api.Arc{From: one.From, To: two.To, Mode: one.Mode, Cost: one.Cost + two.Cost, Edge: none, A: a, B: b}
}

// partsLower tells whether the parts of shortcut i have lower numbers: such a shortcut can't be part of itself.
func partsLower(a api.Arc, i int) bool {
	return a.A >= 0 && a.A < i && a.B >= 0 && a.B < i
}
