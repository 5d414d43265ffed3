package order_test

import (
	"math/bits"
	"slices"
	"testing"

	"milestone/api"
	"milestone/order"
)

// edge is one of no cost.
func edge(from, to, mode int) api.Edge {
	return api.Edge{From: from, To: to, Mode: mode}
}

func network(vertices int, edges ...api.Edge) api.Net {
	return api.Net{N: vertices, Edges: edges}
}

// check holds both faces against what is wanted: the links by their numbers, the order.
func check(t *testing.T, n api.Net, links, others []int) {
	t.Helper()
	want := make([]bool, n.N)
	for _, v := range links {
		want[v] = true
	}
	if got := order.Links(n); !slices.Equal(got, want) {
		t.Errorf("Links of %v: %v, not %v", n, got, want)
	}
	if got := order.Order(n); !slices.Equal(got, others) {
		t.Errorf("Order of %v: %v, not %v", n, got, others)
	}
}

// between are the numbers from low on that are less than high.
func between(low, high int) []int {
	var row []int
	for i := low; i < high; i++ {
		row = append(row, i)
	}
	return row
}

func TestP1001OfOneVertex(t *testing.T) {
	check(t, network(1), nil, []int{0})
	check(t, api.Net{N: 1, Edges: []api.Edge{}}, nil, []int{0})
	for one := range api.Modes {
		check(t, network(1, edge(0, 0, one)), nil, []int{0})
		check(t, network(1, edge(0, 0, one), edge(0, 0, one), edge(0, 0, one)), nil, []int{0})
		for two := range api.Modes {
			if one != two {
				check(t, network(1, edge(0, 0, one), edge(0, 0, two)), []int{0}, nil)
			}
		}
	}
}

func TestP1001WithoutEdges(t *testing.T) {
	for _, vertices := range []int{2, 3, 59, api.MaxNodes} {
		check(t, network(vertices), nil, between(0, vertices))
	}
}

// Two modes make a vertex a link, whichever they are, and whether its edges lead from it, to it, or both.
func TestP1001LinksByEdgesFromAndTo(t *testing.T) {
	for one := range api.Modes {
		for two := range api.Modes {
			var links []int
			others := []int{0, 2, 1}
			if one != two {
				links, others = []int{1}, []int{0, 2}
			}
			check(t, network(3, edge(1, 0, one), edge(1, 2, two)), links, others)
			check(t, network(3, edge(0, 1, one), edge(2, 1, two)), links, others)
			check(t, network(3, edge(0, 1, one), edge(1, 2, two)), links, others)
			check(t, network(3, edge(1, 0, one), edge(2, 1, two)), links, others)
		}
	}
}

func TestP1001LinksOfMoreThanTwoModes(t *testing.T) {
	check(t, network(4, edge(0, 1, 0), edge(0, 2, 1), edge(3, 0, 2)), []int{0}, []int{1, 2, 3})
	check(t, network(5, edge(0, 1, 0), edge(0, 2, 1), edge(3, 0, 2), edge(4, 0, 3)), []int{0}, between(1, 5))
	check(t, network(6, edge(0, 1, 0), edge(0, 2, 1), edge(3, 0, 2), edge(4, 0, 3), edge(0, 5, 4)), []int{0}, between(1, 6))
}

// That the vertices beside one are links, or have two modes between them, makes it none.
func TestP1001LinksByTheirOwnEdgesAlone(t *testing.T) {
	check(t, network(5, edge(0, 1, 0), edge(1, 2, 0), edge(2, 3, 1), edge(3, 4, 1)), []int{2}, []int{0, 4, 1, 3})
	check(t, network(4, edge(0, 1, 0), edge(2, 3, 4)), nil, between(0, 4))
	check(t, network(4, edge(1, 0, 2), edge(3, 0, 2), edge(2, 1, 3), edge(2, 3, 3)), []int{1, 3}, []int{0, 2})
}

func TestP1001Loops(t *testing.T) {
	check(t, network(2, edge(1, 1, 3)), nil, []int{0, 1})
	check(t, network(2, edge(0, 0, 3)), nil, []int{1, 0})
	check(t, network(2, edge(0, 0, 3), edge(0, 0, 3)), nil, []int{1, 0})
	check(t, network(2, edge(0, 0, 3), edge(0, 0, 4)), []int{0}, []int{1})
	check(t, network(2, edge(0, 0, 3), edge(0, 1, 4)), []int{0}, []int{1})
	check(t, network(2, edge(0, 0, 3), edge(1, 0, 4)), []int{0}, []int{1})
	check(t, network(2, edge(0, 0, 3), edge(1, 0, 3)), nil, []int{1, 0})
}

// A loop counts as two edges: by itself more than one edge, as many as two, fewer than three.
func TestP1001LoopsCountTwice(t *testing.T) {
	check(t, network(3, edge(0, 0, 1), edge(1, 2, 1)), nil, []int{1, 2, 0})
	check(t, network(3, edge(0, 0, 1), edge(1, 2, 1), edge(2, 1, 1)), nil, []int{0, 1, 2})
	check(t, network(3, edge(2, 2, 1), edge(1, 0, 1), edge(0, 1, 1)), nil, []int{0, 1, 2})
	check(t, network(3, edge(2, 2, 1), edge(1, 0, 1), edge(0, 1, 1), edge(0, 1, 1)), nil, []int{2, 0, 1})
}

// Of a loop and an edge there are three: as many as of three edges, fewer than of two loops.
func TestP1001LoopsAmongOthers(t *testing.T) {
	three := []api.Edge{edge(1, 2, 0), edge(1, 3, 0), edge(4, 1, 0)}
	check(t, network(6, append(three, edge(5, 5, 0), edge(5, 0, 0))...), nil, []int{0, 2, 3, 4, 1, 5})
	check(t, network(6, append(three, edge(0, 0, 0), edge(5, 0, 0))...), nil, []int{2, 3, 4, 5, 0, 1})
	check(t, network(6, append(three, edge(0, 0, 0), edge(0, 0, 0))...), nil, []int{5, 2, 3, 4, 1, 0})
}

func TestP1001EdgesSideBySide(t *testing.T) {
	same := []api.Edge{edge(0, 1, 2), edge(0, 1, 2), edge(0, 1, 2)}
	check(t, network(4, append(same, edge(2, 3, 2), edge(2, 3, 2))...), nil, []int{2, 3, 0, 1})
	check(t, network(4, append(same, edge(2, 3, 1), edge(2, 3, 2))...), []int{2, 3}, []int{0, 1})
	check(t, network(4, append(same, edge(2, 3, 1), edge(3, 2, 2))...), []int{2, 3}, []int{0, 1})
	check(t, network(4, append(same, edge(1, 0, 0))...), []int{0, 1}, []int{2, 3})
	check(t, network(4, append(same, edge(1, 0, 2), edge(3, 2, 2))...), nil, []int{2, 3, 0, 1})
}

func TestP1001OfSeveralTheLeastNumber(t *testing.T) {
	check(t, network(5, edge(4, 3, 0), edge(3, 2, 0), edge(2, 1, 0), edge(1, 0, 0), edge(0, 4, 0)), nil, between(0, 5))
	check(t, network(6, edge(5, 0, 0), edge(4, 1, 0), edge(3, 2, 0)), nil, between(0, 6))
	check(t, network(6, edge(5, 3, 0), edge(3, 1, 0), edge(1, 5, 0)), nil, []int{0, 2, 4, 1, 3, 5})
}

// Vertex v of a row of edges side by side has more of them the less v is.
func TestP1001FewestFirst(t *testing.T) {
	n := network(20)
	for v := range 19 {
		for range 19 - v {
			n.Edges = append(n.Edges, edge(v, 19, 4))
		}
	}
	want := between(1, 19)
	slices.Reverse(want)
	check(t, n, nil, append(want, 0, 19))
}

func TestP1001AllAreLinks(t *testing.T) {
	check(t, network(2, edge(0, 1, 0), edge(1, 0, 1)), between(0, 2), nil)
	for _, vertices := range []int{3, 17, api.MaxNodes} {
		n := network(vertices)
		for v := range vertices {
			n.Edges = append(n.Edges, edge(v, (v+1)%vertices, 1), edge(v, v, 3))
		}
		check(t, n, between(0, vertices), nil)
	}
}

func TestP1001NoneIsALink(t *testing.T) {
	for mode := range api.Modes {
		n := network(api.MaxNodes)
		for v := range api.MaxNodes {
			n.Edges = append(n.Edges, edge(v, (v+7)%api.MaxNodes, mode))
		}
		check(t, n, nil, between(0, api.MaxNodes))
	}
}

// plainly counts edge by edge.
func plainly(n api.Net) (links, others []int) {
	sets, ends := make([]int, n.N), make([]int, n.N)
	for _, e := range n.Edges {
		sets[e.From] |= 1 << e.Mode
		sets[e.To] |= 1 << e.Mode
		ends[e.From]++
		ends[e.To]++
	}
	for v, set := range sets {
		if bits.OnesCount(uint(set)) > 1 {
			links = append(links, v)
			continue
		}
		at := len(others)
		for at > 0 && ends[others[at-1]] > ends[v] {
			at--
		}
		others = slices.Insert(others, at, v)
	}
	return links, others
}

func TestP1001OfTheLargest(t *testing.T) {
	last := api.MaxNodes - 1
	loops := network(api.MaxNodes, slices.Repeat([]api.Edge{edge(0, 0, 0)}, api.MaxEdges)...)
	check(t, loops, nil, append(between(1, api.MaxNodes), 0))
	loops.Edges[api.MaxEdges-1].Mode = 1
	check(t, loops, []int{0}, between(1, api.MaxNodes))
	side := network(api.MaxNodes, slices.Repeat([]api.Edge{edge(last, 0, 4)}, api.MaxEdges)...)
	check(t, side, nil, append(between(1, last), 0, last))
	side.Edges[0].Mode = 3
	check(t, side, []int{0, last}, between(1, last))
	d := dice(1001)
	for range 200 {
		n := d.anyNet(api.MaxNodes, api.MaxEdges)
		links, others := plainly(n)
		check(t, n, links, others)
	}
}

func TestP1001OfNetworksByDice(t *testing.T) {
	d := dice(1002)
	for range 3000 {
		vertices := 1 + d.below(12)
		n := d.anyNet(vertices, d.below(3*vertices))
		links, others := plainly(n)
		check(t, n, links, others)
	}
}

func TestP1001EitherALinkOrOnceInTheOrder(t *testing.T) {
	d := dice(1003)
	for range 1000 {
		vertices := 1 + d.below(api.MaxNodes)
		n := d.anyNet(vertices, d.below(2*vertices))
		links := order.Links(n)
		if len(links) != vertices {
			t.Fatalf("%d links of %d vertices", len(links), vertices)
		}
		times := make([]int, vertices)
		for _, v := range order.Order(n) {
			times[v]++
		}
		for v, is := range links {
			if is && times[v] != 0 || !is && times[v] != 1 {
				t.Errorf("%v: %d is a link: %v, and %d times in the order", n, v, is, times[v])
			}
		}
	}
}

// changed is the network with each edge changed.
func changed(n api.Net, change func(*api.Edge)) api.Net {
	n.Edges = slices.Clone(n.Edges)
	for i := range n.Edges {
		change(&n.Edges[i])
	}
	return n
}

func TestP1001CostsAndWhichWayDoNotMatter(t *testing.T) {
	d := dice(1004)
	for range 300 {
		vertices := 1 + d.below(10)
		n := d.anyNet(vertices, d.below(3*vertices))
		links, others := plainly(n)
		for _, change := range []func(*api.Edge){
			func(e *api.Edge) { e.Cost = 0 },
			func(e *api.Edge) { e.Cost = api.MaxCost },
			func(e *api.Edge) { e.Cost = d.below(api.MaxCost) },
			func(e *api.Edge) { e.From, e.To = e.To, e.From },
			func(e *api.Edge) { e.From, e.To = min(e.From, e.To), max(e.From, e.To) },
			func(e *api.Edge) { e.From, e.To = max(e.From, e.To), min(e.From, e.To) },
		} {
			check(t, changed(n, change), links, others)
		}
		slices.Reverse(n.Edges)
		check(t, n, links, others)
	}
}

// Which modes they are does not matter, only whether they differ.
func TestP1001ModesByOtherNumbers(t *testing.T) {
	d := dice(1005)
	for range 200 {
		n := d.anyNet(8, d.below(20))
		links, others := plainly(n)
		for turn := range api.Modes {
			check(t, changed(n, func(e *api.Edge) { e.Mode = (e.Mode + turn) % api.Modes }), links, others)
		}
		check(t, changed(n, func(e *api.Edge) { e.Mode = api.Modes - 1 - e.Mode }), links, others)
	}
}
