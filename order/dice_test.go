package order_test

import "milestone/api"

// dice throws the same numbers each time.
type dice uint64

func (d *dice) below(bound int) int {
	*d = *d*6364136223846793005 + 1442695040888963407
	return int(uint64(*d)>>33) % bound
}

// anyNet is a network of so many vertices and edges. Most edges lead to the lower numbers, so that some vertices have many and some none; modes other than the usual one are rare in it, or not so rare, so that there are links and others.
func (d *dice) anyNet(vertices, edges int) api.Net {
	n := api.Net{N: vertices}
	usual, rare := d.below(api.Modes), 1+d.below(edges+1)
	for range edges {
		e := api.Edge{From: d.below(vertices), To: d.below(1 + d.below(vertices)), Mode: usual, Cost: d.below(9)}
		if d.below(rare) == 0 {
			e.Mode = d.below(api.Modes)
		}
		n.Edges = append(n.Edges, e)
	}
	return n
}
