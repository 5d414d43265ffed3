package hier

import (
	"slices"

	"milestone/api"
)

// builder makes an index. Which arcs there are hangs on those that are current as each vertex goes.
type builder struct {
	index   api.Index
	current *chart
	gone    []bool
}

func newBuilder(n api.Net) *builder {
	b := &builder{gone: make([]bool, n.N)}
	b.index = api.Index{
		Net:  api.Net{N: n.N, Edges: slices.Clone(n.Edges)},
		Rank: slices.Repeat([]int{none}, n.N),
		Up:   make([][]int, n.N),
		Down: make([][]int, n.N),
	}
	b.current = newChart(n.N, b.arcCost)
	return b
}

func (b *builder) edgeCost(i int) int { return b.index.Net.Edges[i].Cost }

func (b *builder) arcCost(i int) int { return b.index.Arcs[i].Cost }

// begin makes the arcs that stand for one edge: the least one of each From, To and Mode, in the order of the chart.
func (b *builder) begin() {
	edges := b.index.Net.Edges
	least := newChart(b.index.Net.N, b.edgeCost)
	for i := range edges {
		least.lower(edgeArc(edges, i), i)
	}
	for _, i := range least.numbers {
		if i != none {
			b.offer(edgeArc(edges, i))
		}
	}
}

// offer puts an arc behind all, as the current one, if the current one costs more, or there is none.
func (b *builder) offer(a api.Arc) {
	if b.current.lower(a, len(b.index.Arcs)) {
		b.index.Arcs = append(b.index.Arcs, a)
	}
}

// leave lets v go: behind its Up, to which its loop belongs, but ahead of its Down, to which it does not.
func (b *builder) leave(v int) {
	b.index.Up[v] = b.row((*chart).out, v)
	b.gone[v] = true
	b.index.Down[v] = b.row((*chart).in, v)
	b.bridge(v)
}

// row tells the current arcs between v and the vertices that have not gone, by these and by their modes, as look sees them from v.
func (b *builder) row(look func(c *chart, v, other, mode int) int, v int) []int {
	var row []int
	for other, gone := range b.gone {
		if gone {
			continue
		}
		for mode := range api.Modes {
			if i := look(b.current, v, other, mode); i != none {
				row = append(row, i)
			}
		}
	}
	return row
}

// bridge makes the shortcuts that lead over v.
func (b *builder) bridge(v int) {
	for _, in := range b.index.Down[v] {
		for _, out := range b.index.Up[v] {
			arcs := b.index.Arcs
			if arcs[out].To != v && arcs[in].Mode == arcs[out].Mode {
				b.offer(shortcut(arcs, in, out))
			}
		}
	}
}

// end gives those that stay their Up: they alone have not gone.
func (b *builder) end() {
	for v, gone := range b.gone {
		if !gone {
			b.index.Up[v] = b.row((*chart).out, v)
		}
	}
}
