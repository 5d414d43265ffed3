package hier

import (
	"slices"

	"milestone/api"
)

// checker looks at an index part by part; each part is looked at only if those ahead of it are right.
type checker struct {
	index   api.Index
	lengths []int // of each arc that was looked at, how many edges it stands for
}

// all tells whether each number from 0 on that is less than count is right.
func all(count int, right func(int) bool) bool {
	for i := range count {
		if !right(i) {
			return false
		}
	}
	return true
}

func (c *checker) counts() bool {
	x := c.index
	return len(x.Rank) == x.Net.N && len(x.Up) == x.Net.N && len(x.Down) == x.Net.N && len(x.Arcs) <= maxArcs
}

// ranks tells whether the ranks, but those of vertices that stay, are 0, 1, 2 .., each of them once.
func (c *checker) ranks() bool {
	ranks := sorted(c.index.Rank)
	for len(ranks) > 0 && ranks[0] == none {
		ranks = ranks[1:]
	}
	return all(len(ranks), func(i int) bool { return ranks[i] == i })
}

// arc tells whether arc i stands for what it says. Its ends, its mode and its cost need no bounds of their own: all of them are edges', and the longest arc costs less than the bound.
func (c *checker) arc(i int) bool {
	a := c.index.Arcs[i]
	if a.Edge == none {
		return c.two(a, i)
	}
	c.lengths = append(c.lengths, 1)
	edges := c.index.Net.Edges
	return a.Edge >= 0 && a.Edge < len(edges) && a == edgeArc(edges, a.Edge)
}

// two tells whether a, arc i, stands for two lower arcs.
func (c *checker) two(a api.Arc, i int) bool {
	if !partsLower(a, i) {
		return false
	}
	length := c.lengths[a.A] + c.lengths[a.B]
	c.lengths = append(c.lengths, length)
	arcs := c.index.Arcs
	one, two := arcs[a.A], arcs[a.B]
	return length <= longest && one.To == two.From && one.Mode == two.Mode && a == shortcut(arcs, a.A, a.B)
}

// height is a vertex's rank; those that stay are above all ranks, none of them above another.
func (c *checker) height(v int) int {
	if rank := c.index.Rank[v]; rank != none {
		return rank
	}
	return c.index.Net.N
}

// up tells whether Up of v leads from it to vertices that are no lower: itself, or, as no two have one rank, such as are above it or stay.
func (c *checker) up(v int) bool {
	return c.row(c.index.Up[v], v, arc.from, arc.to, c.height(v))
}

// down tells whether Down of v leads to it from vertices that are higher. Of one that stays there are none.
func (c *checker) down(v int) bool {
	return c.row(c.index.Down[v], v, arc.to, arc.from, c.height(v)+1)
}

// row tells whether these are arcs, none twice, whose near end is v, and whose far end is no lower than least.
func (c *checker) row(row []int, v int, near, far func(arc) int, least int) bool {
	arcs := c.index.Arcs
	if len(row) > len(arcs) { // one is there twice; what may be that long need not be sorted
		return false
	}
	for _, i := range row {
		if i < 0 || i >= len(arcs) {
			return false
		}
		a := arc(arcs[i])
		if near(a) != v || c.height(far(a)) < least {
			return false
		}
	}
	return once(row)
}

func once(row []int) bool {
	return len(slices.Compact(sorted(row))) == len(row)
}

// sorted is a row of its own: what is looked at is not changed.
func sorted(row []int) []int {
	row = slices.Clone(row)
	slices.Sort(row)
	return row
}
