package engine_test

import (
	"math"
	"slices"

	"milestone/api"
	"milestone/engine"
	"milestone/net"
)

// dice throws the same numbers each time.
type dice uint64

func (d *dice) below(n int) int {
	*d = *d*6364136223846793005 + 1442695040888963407
	return int(uint64(*d)>>33) % n
}

func one[T any](d *dice, list []T) T {
	return list[d.below(len(list))]
}

// anyCost is small mostly, so that ways cost the same; now and then it is one of the greatest.
func (d *dice) anyCost() int {
	if d.below(20) == 0 {
		return api.MaxCost - d.below(3)
	}
	return d.below(1 + d.below(30))
}

// anyNet is a network of so many vertices and edges. Its vertices lie in regions, each with a mode of its own, so that most of them go; now and then an edge is of another mode, rarely or often.
func (d *dice) anyNet(vertices, edges int) api.Net {
	n := api.Net{N: vertices}
	regions, rare := 1+d.below(3), 2+d.below(edges+1)
	for range edges {
		e := api.Edge{From: d.below(vertices), To: d.below(vertices), Cost: d.anyCost()}
		if d.below(4) > 0 {
			e.To = e.From - e.From%regions + d.below(regions)
			e.To = (e.To + regions*d.below(vertices)) % vertices
		}
		e.Mode = e.From % regions
		if d.below(rare) == 0 {
			e.Mode = d.below(api.Modes)
		}
		n.Edges = append(n.Edges, e)
	}
	return n
}

func (d *dice) anySmallNet() api.Net {
	vertices := 1 + d.below(7)
	return d.anyNet(vertices, d.below(4*vertices))
}

// odd are numbers that bounds are held against.
var odd = []int{-3, -2, -1, 0, 1, 2, 3, 9, 59, 60, 61, 399, 400, 401, api.MaxCost - 1, api.MaxCost, api.MaxCost + 1, 1 << 32, 1<<32 + 1, -1 << 31, -1 << 32, math.MaxInt, math.MaxInt - 1, math.MinInt, math.MinInt + 1}

// anyNumber is below most, mostly.
func (d *dice) anyNumber(most int) int {
	if d.below(12) == 0 {
		return one(d, odd)
	}
	return d.below(most)
}

// anyText is an expression, or a text that is refused as one.
func (d *dice) anyText() string {
	if d.below(8) == 0 {
		return one(d, refusedTexts()).text
	}
	return one(d, slices.Concat(steadyTexts(), countingTexts()))
}

func (d *dice) anyPairs(vertices int) [][2]int {
	var pairs [][2]int
	for range d.below(5) {
		pairs = append(pairs, [2]int{d.anyNumber(vertices), d.anyNumber(vertices)})
	}
	return pairs
}

// anyBytes are those of a hierarchy that was saved, or nearly.
func (d *dice) anyBytes(saved [][]byte) []byte {
	if len(saved) == 0 {
		return nil
	}
	b := slices.Clone(one(d, saved))
	switch d.below(4) {
	case 0:
		b[d.below(len(b))] += byte(1 + d.below(255))
	case 1:
		b = b[:d.below(len(b))]
	}
	return b
}

// anyCommand is one that is done, mostly, by an engine that has a network; all that a command of its kind does not bring is any.
func (d *dice) anyCommand(vertices int, saved [][]byte) engine.Cmd {
	c := engine.Cmd{
		Kind:  1 + d.below(8),
		Text:  d.anyText(),
		B:     d.anyBytes(saved),
		X:     d.anyNumber(vertices),
		Y:     d.anyNumber(vertices),
		Pairs: d.anyPairs(vertices),
	}
	if d.below(20) == 0 {
		c.Kind = one(d, odd)
	}
	if c.Kind == engine.Load && d.below(3) > 0 {
		c.Text = net.Text(d.anySmallNet())
	}
	return c
}
