package index_test

import "milestone/api"

// dice throws the same numbers each time.
type dice uint64

func (d *dice) below(bound int) int {
	*d = *d*6364136223846793005 + 1442695040888963407
	return int(uint64(*d)>>33) % bound
}

func (d *dice) anyCost() int {
	if d.below(12) == 0 {
		return api.MaxCost - d.below(3)
	}
	return d.below(300)
}

// anyNet is a network of so many vertices and edges; mostly of one mode, so that vertices go and shortcuts are built.
func (d *dice) anyNet(vertices, edges int) api.Net {
	n := api.Net{N: vertices}
	mode := d.below(api.Modes)
	for range edges {
		e := api.Edge{From: d.below(vertices), To: d.below(vertices), Mode: mode, Cost: d.anyCost()}
		if d.below(1+edges/2) == 0 {
			e.Mode = d.below(api.Modes)
		}
		n.Edges = append(n.Edges, e)
	}
	return n
}

func (d *dice) anyBytes(most int) []byte {
	b := make([]byte, d.below(most+1))
	for i := range b {
		b[i] = byte(d.below(256))
	}
	return b
}
