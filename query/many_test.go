package query_test

import (
	"slices"
	"testing"

	"milestone/api"
	"milestone/hier"
	"milestone/product"
	"milestone/query"
)

// street is a street there and back, and a vertex that none leads to; 1 is a link.
func street(t *testing.T) api.Index {
	t.Helper()
	return built(t, 5, "0 1 w 1", "1 0 w 1", "1 2 b 2", "2 1 b 3", "2 3 b 4", "4 4 c 7")
}

func TestP1301ManyToNone(t *testing.T) {
	for _, text := range []string{".*", "w+", "ww"} {
		for _, to := range [][]int{nil, {}, []int{1, 2}[:0]} {
			checkMany(t, street(t), compiled(t, text), 0, to, nil)
		}
		checkMany(t, built(t, 1), compiled(t, text), 0, nil, nil)
	}
}

func TestP1301ManyToOne(t *testing.T) {
	x := street(t)
	for to, cost := range []int{0, 1, 3, 7, -1} {
		checkMany(t, x, steady(t, ".*"), 0, []int{to}, []int{cost})
	}
	for to, cost := range []int{-1, 1, -1, -1, -1} {
		checkMany(t, x, counting(t, "w"), 0, []int{to}, []int{cost})
	}
	checkMany(t, x, steady(t, ".+"), 4, []int{4}, []int{7})
	checkMany(t, x, steady(t, "c+"), 0, []int{4}, []int{-1})
}

func TestP1301ManyInOrderAndSeveralTimes(t *testing.T) {
	x := street(t)
	any := steady(t, ".*")
	checkMany(t, x, any, 0, []int{3, 1, 4, 1, 0, 3, 3}, []int{7, 1, -1, 1, 0, 7, 7})
	checkMany(t, x, any, 0, []int{0, 1, 2, 3, 4}, []int{0, 1, 3, 7, -1})
	checkMany(t, x, any, 0, []int{4, 3, 2, 1, 0}, []int{-1, 7, 3, 1, 0})
	checkMany(t, x, any, 2, []int{2, 2, 0, 2}, []int{0, 0, 4, 0})
	checkMany(t, x, any, 4, []int{0, 4, 3, 4}, []int{-1, 0, -1, 0})
	checkMany(t, x, steady(t, "w+"), 0, []int{1, 0, 2, 0}, []int{1, 2, -1, 2})
	checkMany(t, x, steady(t, "b+w+"), 2, []int{1, 0, 1, 3}, []int{5, 4, 5, -1})
	checkMany(t, x, counting(t, "ww|b"), 1, []int{2, 1, 0, 2}, []int{2, 2, -1, 2})
	checkMany(t, x, counting(t, "w{3,4}"), 0, []int{1, 0, 2, 1}, []int{3, 4, -1, 3})
	checkMany(t, x, any, 0, slices.Repeat([]int{3}, 10000), slices.Repeat([]int{7}, 10000))
	checkMany(t, x, steady(t, "0"), 0, []int{0, 1, 0}, []int{-1, -1, -1})
}

// Of each the cost that Route tells, whatever the index is.
func TestP1301ManyTellsTheCostsOfRoute(t *testing.T) {
	d := dice(13031)
	for i := range 400 {
		vertices := 1 + d.below(10)
		n := d.anyNet(vertices, d.below(4*vertices))
		x := hier.Build(n)
		if i%3 == 0 && len(n.Edges) > 0 {
			x = d.anyIndex(n)
		}
		m := d.anySteady(1 + d.below(5))
		if i%4 == 0 {
			m = d.anyMachine(1 + d.below(4))
		}
		from := d.below(vertices)
		var to, want []int
		for range d.below(15) {
			v := d.below(vertices)
			cost := -1
			if r, is := query.Route(x, m, from, v); is {
				cost = r.Cost
			}
			to, want = append(to, v), append(want, cost)
		}
		checkMany(t, x, m, from, to, want)
	}
}

func TestP1302ByShortcutsTheSame(t *testing.T) {
	d := dice(13032)
	for range 500 {
		vertices := 1 + d.below(10)
		n := d.anyNet(vertices, d.below(4*vertices))
		checkSame(t, n, d.anySteady(1+d.below(7)))
		checkSame(t, n, d.anyMachine(1+d.below(5)))
	}
	for _, text := range append(steadyTexts(), countingTexts()...) {
		for range 12 {
			vertices := 1 + d.below(12)
			checkSame(t, d.anyNet(vertices, d.below(4*vertices)), compiled(t, text))
		}
	}
}

func TestP1302OfLargeNetworksTheSame(t *testing.T) {
	d := dice(13033)
	texts := append(steadyTexts(), countingTexts()...)
	for i := range 30 {
		vertices := 30 + d.below(31)
		n := d.anyNet(vertices, 100+d.below(301))
		if i%5 == 0 {
			for k := range n.Edges {
				n.Edges[k].Mode = 0
			}
		}
		x := hier.Build(n)
		m := compiled(t, texts[d.below(len(texts))])
		if i%3 == 0 {
			m = d.anySteady(1 + d.below(9))
		}
		for range 3 {
			from := d.below(vertices)
			checkFrom(t, x, m, from, product.Costs(n, m, from)...)
		}
	}
}

// Shortcuts over shortcuts: a grid of streets that go, here and there a link.
func TestP1302OfAGridTheSame(t *testing.T) {
	d := dice(13034)
	for links := range 5 {
		n := api.Net{N: 56}
		for v := range n.N {
			for _, w := range []int{v - 8, v + 8, v - 1, v + 1} {
				if w >= 0 && w < n.N && (w/8 == v/8 || w%8 == v%8) {
					n.Edges = append(n.Edges, api.Edge{From: v, To: w, Mode: 2, Cost: 1 + d.below(20)})
				}
			}
		}
		for range links {
			n.Edges = append(n.Edges, api.Edge{From: d.below(n.N), To: d.below(n.N), Mode: 4, Cost: 1 + d.below(60)})
		}
		x := hier.Build(n)
		for _, text := range []string{".*", "c+", "c*t*c*", "c+t+c+", "c*t?c*", "c{0,9}", "(c+t+)*"} {
			m := compiled(t, text)
			for _, from := range []int{0, 27, 55} {
				checkFrom(t, x, m, from, product.Costs(n, m, from)...)
			}
		}
	}
}

// What was built, with a cost changed, is built anew: it costs what it costs by then.
func TestT2WhateverCostsWereChanged(t *testing.T) {
	d := dice(13035)
	for range 30 {
		vertices := 2 + d.below(8)
		n := d.anyNet(vertices, 1+d.below(4*vertices))
		m := d.anySteady(1 + d.below(4))
		for range 6 {
			n.Edges[d.below(len(n.Edges))].Cost = d.anyCost()
			checkSame(t, n, m)
		}
	}
}
