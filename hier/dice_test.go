package hier_test

import "milestone/api"

// dice throws the same numbers each time.
type dice uint64

func (d *dice) below(n int) int {
	*d = *d*6364136223846793005 + 1442695040888963407
	return int(uint64(*d)>>33) % n
}

// anyCost is small mostly, so that ways cost the same; now and then it is one of the greatest.
func (d *dice) anyCost() int {
	if d.below(20) == 0 {
		return api.MaxCost - d.below(3)
	}
	return d.below(1 + d.below(30))
}

// anyNet is a network of so many vertices and edges. Its vertices lie in regions, each with a mode of its own, so that most of them go; now and then an edge is of another mode, rarely or often.
func (d *dice) anyNet(vertices, edges int) api.Net {
	n := api.Net{N: vertices}
	regions, rare := 1+d.below(3), 2+d.below(edges+1)
	for range edges {
		e := api.Edge{From: d.below(vertices), To: d.below(vertices), Cost: d.anyCost()}
		if d.below(4) > 0 {
			e.To = e.From - e.From%regions + d.below(regions)
			e.To = (e.To + regions*d.below(vertices)) % vertices
		}
		e.Mode = e.From % regions
		if d.below(rare) == 0 {
			e.Mode = d.below(api.Modes)
		}
		n.Edges = append(n.Edges, e)
	}
	return n
}
