package hier_test

import (
	"slices"
	"testing"

	"milestone/api"
	"milestone/hier"
	"milestone/net"
	"milestone/product"
)

func checkUnpack(t *testing.T, x api.Index, arc int, want ...int) {
	t.Helper()
	if got := hier.Unpack(x, arc); !slices.Equal(got, want) {
		t.Errorf("arc %d: %v, not %v", arc, got, want)
	}
}

func TestP1102UnpackOfEdges(t *testing.T) {
	x := town(t)
	for i, a := range x.Arcs[:7] {
		checkUnpack(t, x, i, a.Edge)
	}
	checkUnpack(t, round(0), 0, 0)
	checkUnpack(t, hier.Build(network(t, 2, "0 1 w 9", "0 1 w 4", "1 0 w 3", "0 1 w 4")), 0, 1)
}

func TestP1102UnpackOfShortcutsInOrder(t *testing.T) {
	x := town(t)
	x.Arcs = append(x.Arcs, short(0, 1, 0, 9, 1, 2), short(0, 2, 0, 12, 8, 3), short(2, 2, 0, 13, 4, 9), short(0, 2, 0, 18, 7, 10), short(2, 2, 0, 26, 10, 10), short(2, 2, 0, 19, 4, 11))
	if !hier.Check(x) {
		t.Error("refused")
	}
	checkUnpack(t, x, 7, 0, 1)
	checkUnpack(t, x, 8, 0, 5)
	checkUnpack(t, x, 9, 0, 5, 1)
	checkUnpack(t, x, 10, 2, 0, 5, 1)
	checkUnpack(t, x, 11, 0, 1, 2, 0, 5, 1)
	checkUnpack(t, x, 12, 2, 0, 5, 1, 2, 0, 5, 1)
	checkUnpack(t, x, 13, 2, 0, 1, 2, 0, 5, 1)
}

// A row of vertices, the ways over them put together from the left, from the right, and by halves.
func TestP1102UnpackPutTogetherAnyhow(t *testing.T) {
	const length = 59
	x := api.Index{Net: api.Net{N: 60}, Rank: slices.Repeat([]int{-1}, 60), Up: make([][]int, 60), Down: make([][]int, 60)}
	var want []int
	for i := range length {
		edge := length - 1 - i // edge numbers fall as the row goes on
		want = append(want, edge)
		x.Net.Edges = append(x.Net.Edges, api.Edge{From: edge, To: edge + 1, Cost: 1})
		x.Arcs = append(x.Arcs, api.Arc{From: i, To: i + 1, Cost: 1, Edge: edge})
	}
	join := func(a, b int) int {
		x.Arcs = append(x.Arcs, short(x.Arcs[a].From, x.Arcs[b].To, 0, x.Arcs[a].Cost+x.Arcs[b].Cost, a, b))
		return len(x.Arcs) - 1
	}
	left, right := 0, length-1
	for i := 1; i < length; i++ {
		left, right = join(left, i), join(length-1-i, right)
	}
	var half func(low, high int) int
	half = func(low, high int) int {
		if high-low == 1 {
			return low
		}
		middle := (low + high) / 2
		return join(half(low, middle), half(middle, high))
	}
	halves := half(0, length)
	if !hier.Check(x) {
		t.Fatal("refused")
	}
	for _, arc := range []int{left, right, halves} {
		checkUnpack(t, x, arc, want...)
	}
}

func TestP1102UnpackOfTheLongest(t *testing.T) {
	for _, turned := range []bool{false, true} {
		x := row(1, 1000, turned)
		for _, length := range []int{1, 2, 500, 999, 1000} {
			checkUnpack(t, x, length-1, make([]int, length)...)
		}
	}
	x := round(1)
	for i := range 9 {
		x.Arcs = append(x.Arcs, short(0, 0, 0, 2<<i, i, i))
	}
	x.Arcs = append(x.Arcs, short(0, 0, 0, 768, 9, 8), short(0, 0, 0, 232, 7, 6)) // 512 + 256, 128 + 64
	x.Arcs[11].Cost = 192
	x.Arcs = append(x.Arcs, short(0, 0, 0, 960, 10, 11), short(0, 0, 0, 40, 5, 3), short(0, 0, 0, 1000, 12, 13))
	if !hier.Check(x) {
		t.Fatal("refused")
	}
	checkUnpack(t, x, 14, make([]int, 1000)...)
}

// What was built is allowed; each arc's edges are a walk between its ends, at its cost, of its mode alone, over no vertex but such as went.
func checkWalks(t *testing.T, n api.Net) {
	t.Helper()
	x := hier.Build(n)
	if !hier.Check(x) || !right(x) {
		t.Fatalf("%v: %v is refused", n, x)
	}
	for i, a := range x.Arcs {
		edges := hier.Unpack(x, i)
		cost, word, is := net.Walk(n, a.From, a.To, edges)
		if !is || cost != a.Cost || len(edges) == 0 || a.Edge >= 0 && !slices.Equal(edges, []int{a.Edge}) {
			t.Errorf("%v: arc %d: %v, no walk of cost %d", n, i, edges, a.Cost)
		}
		for k, mode := range word {
			if mode != a.Mode || k > 0 && x.Rank[n.Edges[edges[k]].From] == -1 {
				t.Errorf("%v: arc %d: %v by %v", n, i, edges, word)
			}
		}
	}
}

func TestP1103OfOrdinaryNetworks(t *testing.T) {
	checkWalks(t, town(t).Net)
	checkWalks(t, network(t, 1))
	checkWalks(t, network(t, 1, "0 0 w 0", "0 0 t 2147483647"))
	checkWalks(t, network(t, 3, "0 1 w 2", "1 0 w 3", "0 2 w 1", "2 1 w 0", "1 1 w 0"))
	checkWalks(t, network(t, 4, "0 1 w 0", "1 2 w 0", "2 3 w 0", "3 0 w 0", "0 2 w 0", "1 3 w 0"))
	checkWalks(t, full(20))
}

func TestP1103OfNetworksByDice(t *testing.T) {
	d := dice(11031)
	for range 2000 {
		vertices := 1 + d.below(14)
		checkWalks(t, d.anyNet(vertices, d.below(4*vertices)))
	}
	for i := range 40 {
		n := d.anyNet(api.MaxNodes, api.MaxEdges)
		for k := range n.Edges {
			if i%2 == 0 {
				n.Edges[k].Mode = 3
			}
		}
		checkWalks(t, n)
	}
}

// The longest shortcut that is built: once round a ring, and each number of the greatest cost.
func TestP1103OfTheGreatestCosts(t *testing.T) {
	n := api.Net{N: api.MaxNodes, Edges: []api.Edge{{From: 0, To: 0, Mode: 1, Cost: api.MaxCost}}}
	for v := range n.N {
		n.Edges = append(n.Edges, api.Edge{From: v, To: (v + 1) % n.N, Cost: api.MaxCost})
	}
	checkWalks(t, n)
	x := hier.Build(n)
	last := x.Arcs[len(x.Arcs)-1]
	if last.From != 0 || last.To != 0 || last.Cost != 60*api.MaxCost || len(hier.Unpack(x, len(x.Arcs)-1)) != 60 {
		t.Errorf("once round: %v", last)
	}
}

// ways are the least costs from a vertex to each by arcs of some modes: of Up first, then of Down; -1: none.
func ways(x api.Index, from, modes int) []int {
	costs := slices.Repeat([]int{-1}, x.Net.N)
	costs[from] = 0
	for _, lists := range [][][]int{x.Up, x.Down} {
		for less := true; less; {
			less = false
			for _, list := range lists {
				for _, i := range list {
					a := x.Arcs[i]
					if modes>>a.Mode&1 == 1 && costs[a.From] >= 0 && (costs[a.To] == -1 || costs[a.From]+a.Cost < costs[a.To]) {
						costs[a.To], less = costs[a.From]+a.Cost, true
					}
				}
			}
		}
	}
	return costs
}

// T2: by arcs up, then down, ways cost what they cost by edges.
func TestT2WaysByArcsCostTheSame(t *testing.T) {
	d := dice(11032)
	for range 400 {
		vertices := 1 + d.below(12)
		n := d.anyNet(vertices, d.below(4*vertices))
		x := hier.Build(n)
		for _, modes := range []int{31, 1, 2, 3, 6, 28, 1 + d.below(31)} {
			for from := range vertices {
				if got, want := ways(x, from, modes), product.Costs(n, sink(modes), from); !slices.Equal(got, want) {
					t.Fatalf("%v, modes %d from %d: %v, not %v", n, modes, from, got, want)
				}
			}
		}
	}
}

// sink is the machine that takes all words of these modes: others lead where it does not accept, for good.
func sink(modes int) api.Dfa {
	d := api.Dfa{Next: make([][api.Modes]int, 2), Accept: []bool{true, false}}
	for mode := range api.Modes {
		d.Next[0][mode] = 1 - modes>>mode&1
		d.Next[1][mode] = 1
	}
	return d
}
