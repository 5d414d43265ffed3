package product_test

import (
	"slices"

	"milestone/api"
)

// dice throws the same numbers each time.
type dice uint64

func (d *dice) below(n int) int {
	*d = *d*6364136223846793005 + 1442695040888963407
	return int(uint64(*d)>>33) % n
}

// anyCost is small mostly, so that walks cost the same; now and then it is one of the greatest.
func (d *dice) anyCost() int {
	if d.below(20) == 0 {
		return api.MaxCost - d.below(3)
	}
	return d.below(1 + d.below(12))
}

// anyEdge is one between so many vertices, by one of the first few modes.
func (d *dice) anyEdge(vertices, modes int) api.Edge {
	return api.Edge{From: d.below(vertices), To: d.below(vertices), Mode: d.below(modes), Cost: d.anyCost()}
}

func (d *dice) anyNet(vertices, edges, modes int) api.Net {
	n := api.Net{N: vertices}
	for range edges {
		n.Edges = append(n.Edges, d.anyEdge(vertices, modes))
	}
	return n
}

// anyMachine is one of so many states; one in a few of them accepts.
func (d *dice) anyMachine(states int) api.Dfa {
	m := sized(states)
	rare := 1 + d.below(5)
	for state := range states {
		for mode := range api.Modes {
			m.Next[state][mode] = d.below(states)
		}
		m.Accept[state] = d.below(rare) == 0
	}
	return m
}

// several is a machine of so many states, each of which stands for one of m's: state for state % as many as there are. Its modes lead to any that stands for where m's lead.
func (d *dice) several(m api.Dfa, states int) api.Dfa {
	one := sized(states)
	least := len(m.Next)
	for state := range states {
		for mode, to := range m.Next[state%least] {
			one.Next[state][mode] = to + least*d.below((states-to+least-1)/least)
		}
		one.Accept[state] = m.Accept[state%least]
	}
	return one
}

// withRoom is the row with spare room behind it, filled with a sign.
func withRoom[T any](row []T, sign T) []T {
	return append(slices.Clone(row), sign, sign, sign)[:len(row)]
}

// whole is a copy of the row and its spare room.
func whole[T any](row []T) []T {
	return slices.Clone(row[:cap(row)])
}

// spoil fills a row and its spare room.
func spoil[T any](row []T, sign T) {
	for i := range row[:cap(row)] {
		row[:cap(row)][i] = sign
	}
}
