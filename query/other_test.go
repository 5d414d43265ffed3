package query_test

import (
	"slices"
	"testing"

	"milestone/api"
	"milestone/hier"
	"milestone/index"
	"milestone/mini"
	"milestone/product"
	"milestone/query"
)

// checkTold holds what is told of any index that is allowed to what the chapter says: a route is right, and Many tells its cost. It tells how many routes there are.
func checkTold(t *testing.T, x api.Index, d api.Dfa) int {
	t.Helper()
	if !hier.Check(x) {
		t.Fatalf("not allowed: %v", x)
	}
	routes := 0
	for from := range x.Net.N {
		for to := range x.Net.N {
			r, is := query.Route(x, d, from, to)
			if !is {
				checkRoute(t, x, d, from, to, -1)
				continue
			}
			routes++
			checkRoute(t, x, d, from, to, r.Cost)
		}
	}
	return routes
}

// checkByArcs holds all of an index against a plain count of ways by arcs, if the machine is steady, else against package product.
func checkByArcs(t *testing.T, x api.Index, d api.Dfa) {
	t.Helper()
	for from := range x.Net.N {
		want := byArcs(x, d, from)
		if !mini.Steady(d) {
			want = product.Costs(x.Net, d, from)
		}
		checkFrom(t, x, d, from, want...)
	}
}

// shorten takes some of some lists.
func shorten(d *dice, lists [][]int) {
	for v, list := range lists {
		if len(list) > 0 && d.below(3) == 0 {
			shuffle(d, list)
			lists[v] = list[:d.below(len(list))]
		}
	}
}

func TestP1301OfListsCutShort(t *testing.T) {
	d := dice(13021)
	routes := 0
	for range 400 {
		vertices := 1 + d.below(8)
		x := hier.Build(d.anyNet(vertices, d.below(4*vertices)))
		shorten(&d, x.Up)
		shorten(&d, x.Down)
		for _, m := range []api.Dfa{d.anySteady(1 + d.below(5)), d.anyMachine(1 + d.below(3))} {
			routes += checkTold(t, x, m)
			checkByArcs(t, x, m)
		}
	}
	if routes < 1000 {
		t.Errorf("only %d routes", routes)
	}
}

// Of any order, with any arcs that stand for walks, in any lists that fit.
func TestP1301OfAnyIndexThatIsAllowed(t *testing.T) {
	d := dice(13022)
	routes, long := 0, 0
	for range 1500 {
		vertices := 1 + d.below(6)
		x := d.anyIndex(d.anyNet(vertices, 1+d.below(3*vertices)))
		for i := range x.Arcs {
			long = max(long, len(hier.Unpack(x, i)))
		}
		m := d.anySteady(1 + d.below(5))
		routes += checkTold(t, x, m)
		checkByArcs(t, x, m)
		if d.below(10) == 0 {
			checkByArcs(t, x, d.anyMachine(1+d.below(4)))
		}
	}
	if routes < 3000 || long < 20 {
		t.Errorf("only %d routes, by arcs of at most %d edges", routes, long)
	}
}

// A hierarchy whose network was changed behind it: where its arcs no longer stand for edges it is refused, and nothing is told. (P8 asks only that it ends; this is the program's own.)
func TestT5OfAnotherNetworkNothingIsTold(t *testing.T) {
	d := dice(13023)
	refused := 0
	for range 300 {
		vertices := 2 + d.below(6)
		n := d.anyNet(vertices, 1+d.below(3*vertices))
		x := hier.Build(n)
		x.Net.Edges[d.below(len(n.Edges))].Cost++
		if hier.Check(x) {
			checkTold(t, x, d.anySteady(3))
			continue
		}
		refused++
		for _, m := range []api.Dfa{d.anySteady(3), d.anyMachine(3)} {
			for to := range vertices {
				checkRoute(t, x, m, 0, to, -1)
			}
		}
	}
	if refused < 100 {
		t.Errorf("only %d", refused)
	}
}

// T5: whatever bytes are read, what is told of them is right.
func TestT5OfAnyBytes(t *testing.T) {
	d := dice(13024)
	read, routes := 0, 0
	for range 6000 {
		vertices := 1 + d.below(5)
		b := index.Encode(hier.Build(d.anyNet(vertices, d.below(3*vertices))))
		for range 1 + d.below(2) {
			b[d.below(len(b))|3] = byte(d.below(7))
		}
		if x, e := index.Decode(b); e == api.OK {
			read++
			routes += checkTold(t, x, d.anySteady(1+d.below(4)))
		}
	}
	if read < 300 || routes < 1000 {
		t.Errorf("only %d read, %d routes", read, routes)
	}
}

// bare is an index of vertices with these ranks, whose arcs are the edges, in no list.
func bare(n api.Net, rank ...int) api.Index {
	x := api.Index{Net: n, Rank: rank, Up: make([][]int, n.N), Down: make([][]int, n.N)}
	for i, e := range n.Edges {
		x.Arcs = append(x.Arcs, api.Arc{From: e.From, To: e.To, Mode: e.Mode, Cost: e.Cost, Edge: i})
	}
	return x
}

// Ways go by arcs that are in lists alone; by a machine that counts, by edges.
func TestP1301WaysGoByArcsThatAreInLists(t *testing.T) {
	x := bare(network(t, 3, "0 1 w 1", "1 2 w 1", "0 2 w 5"), 0, -1, -1)
	checkFrom(t, x, steady(t, ".*"), 0, 0, -1, -1)
	checkFrom(t, x, steady(t, ".+"), 0, -1, -1, -1)
	checkFrom(t, x, counting(t, ".{0,9}"), 0, 0, 1, 2)
	checkEdges(t, x, counting(t, ".{0,9}"), 0, 2, 0, 1)
	x.Up[0] = []int{2}
	checkFrom(t, x, steady(t, ".*"), 0, 0, -1, 5)
	checkFrom(t, x, counting(t, ".{0,9}"), 0, 0, 1, 2)
	x.Up[0], x.Up[1] = []int{2, 0}, []int{1}
	checkFrom(t, x, steady(t, ".*"), 0, 0, 1, 2)
	checkEdges(t, x, steady(t, ".*"), 0, 2, 0, 1)
}

// First up, then down: not up once it has gone down, nor down where it has not begun to.
func TestP1301NotUpBehindDown(t *testing.T) {
	// 0 is the lowest one, between 1 and 2, which stay.
	x := bare(network(t, 3, "1 0 w 1", "0 2 w 1"), 0, -1, -1)
	x.Up[0], x.Down[0] = []int{1}, []int{0}
	checkFrom(t, x, steady(t, ".*"), 0, 0, -1, 1)
	checkFrom(t, x, steady(t, ".*"), 1, 1, 0, -1)
	checkFrom(t, x, steady(t, ".*"), 2, -1, -1, 0)
	checkFrom(t, x, counting(t, "ww"), 1, -1, -1, 2)
	// 2 is the highest one, between 0 and 1.
	x = bare(network(t, 3, "0 2 w 1", "2 1 w 1"), 0, 1, 2)
	x.Up[0], x.Down[1] = []int{0}, []int{1}
	checkFrom(t, x, steady(t, ".*"), 0, 0, 2, 1)
	checkFrom(t, x, steady(t, ".*"), 2, -1, 1, 0)
	// A loop of the vertex where a way turns, or begins; not of one that it came down to.
	x = bare(network(t, 3, "0 2 w 1", "2 1 w 1", "2 2 b 4", "1 1 b 1", "0 0 b 2"), 0, 1, 2)
	x.Up, x.Down[1] = [][]int{{0, 4}, {3}, {2}}, []int{1}
	checkFrom(t, x, steady(t, "w+b+w+"), 0, -1, 6, -1)
	checkFrom(t, x, steady(t, "b+w+"), 0, -1, 4, 3)
	checkFrom(t, x, steady(t, "w+b+"), 0, -1, -1, 5)
	checkFrom(t, x, steady(t, "b+"), 1, -1, 1, -1)
	checkByArcs(t, x, steady(t, "b*w+b*"))
	// Down over several, of which each is lower.
	x = bare(network(t, 4, "3 2 w 1", "2 1 w 2", "1 0 w 4", "0 3 w 8"), 0, 1, 2, -1)
	x.Up[0], x.Down = []int{3}, [][]int{{2}, {1}, {0}, {}}
	checkFrom(t, x, steady(t, "w+"), 3, 7, 3, 1, -1)
	checkFrom(t, x, steady(t, "w+"), 0, 15, 11, 9, 8)
}

// Which way down costs least hangs on the way up: a place that is come to at less cost by going down is none to go up from at that cost.
func TestP1301WhatIsToldCostsWhatItsEdgesDo(t *testing.T) {
	// To 1 it costs 10 up, 2 by 2 and down; 1 leads up to 3 alone.
	x := bare(network(t, 4, "0 1 w 10", "0 2 w 1", "2 1 w 1", "1 3 w 1"), 0, 1, 2, 3)
	x.Up[0], x.Up[1], x.Down[1] = []int{0, 1}, []int{3}, []int{2}
	checkFrom(t, x, steady(t, "w*"), 0, 0, 2, 1, 11)
	checkEdges(t, x, steady(t, "w*"), 0, 1, 1, 2)
	checkEdges(t, x, steady(t, "w*"), 0, 3, 0, 3)
	checkByArcs(t, x, steady(t, "w*"))
}

// Each arc is one step, however many edges it stands for; arcs side by side, and such as are there twice.
func TestP1301OfArcsThatStandForManyEdges(t *testing.T) {
	n := network(t, 2, "0 0 w 1", "0 1 w 1", "1 1 b 2", "0 1 b 9")
	x := bare(n, -1, -1)
	for i := range 999 { // from the second one on of 2 to 1000 edges
		a := 0
		if i > 0 {
			a = len(x.Arcs) - 1
		}
		x.Arcs = append(x.Arcs, api.Arc{Cost: i + 2, Edge: -1, A: a})
	}
	longest := len(x.Arcs) - 1
	x.Up[0], x.Up[1] = []int{longest, 1}, []int{2}
	rounds := make([]int, 1000)
	checkEdges(t, x, steady(t, "w+"), 0, 0, rounds...)
	checkEdges(t, x, steady(t, "w*"), 0, 1, 1)
	checkFrom(t, x, steady(t, "w+"), 0, 1000, 1)
	checkFrom(t, x, steady(t, "w+b+"), 0, -1, 3)
	x.Up[0] = []int{longest, 3} // to 1 by b alone
	checkEdges(t, x, steady(t, "w+b+"), 0, 1, append(rounds, 3)...)
	checkFrom(t, x, steady(t, "w+b+"), 0, -1, 1009)
	x.Up[0] = []int{longest, longest - 1, 5, longest - 2, 0, 1, 3}
	checkFrom(t, x, steady(t, "w+b+"), 0, -1, 3)
	checkFrom(t, x, steady(t, "w+b+w*"), 0, -1, 3)
	checkFrom(t, x, steady(t, "w+"), 0, 1, 1)
	x.Arcs = append(x.Arcs, x.Arcs[1], x.Arcs[3])
	x.Up[0] = append(x.Up[0], longest+1, longest+2)
	checkByArcs(t, x, steady(t, "(w+b+)*w*"))
}

// As many arcs as there may be, by a machine of as many states: it ends, and what is told is right.
func TestP1301OfTheLargestIndex(t *testing.T) {
	d := dice(13025)
	n := d.anyNet(api.MaxNodes, api.MaxEdges)
	x := bare(n, slices.Repeat([]int{-1}, n.N)...)
	for v := range n.N / 2 {
		x.Rank[v] = v
	}
	x.Arcs = slices.Repeat(x.Arcs, 300000/len(x.Arcs))
	for i, a := range x.Arcs {
		if from, to := height(x, a.From), height(x, a.To); to >= from {
			x.Up[a.From] = append(x.Up[a.From], i)
		} else {
			x.Down[a.To] = append(x.Down[a.To], i)
		}
	}
	if len(x.Arcs) != 300000 || !hier.Check(x) {
		t.Fatalf("%d arcs, refused", len(x.Arcs))
	}
	few := d.anySteady(3)
	m := d.several(few, 2000)
	for _, from := range []int{0, 59} {
		want := byArcs(x, few, from)
		all := []int{0, 1, 29, 30, 59}
		checkMany(t, x, m, from, all, []int{want[0], want[1], want[29], want[30], want[59]})
		checkRoute(t, x, m, from, 58, want[58])
	}
}
