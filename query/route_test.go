package query_test

import (
	"slices"
	"testing"

	"milestone/api"
	"milestone/hier"
	"milestone/mini"
	"milestone/product"
	"milestone/query"
)

func TestTheTextsAreWhatTheyAreTakenFor(t *testing.T) {
	for _, text := range steadyTexts() {
		steady(t, text)
	}
	for _, text := range countingTexts() {
		counting(t, text)
	}
}

func TestP1301OneVertex(t *testing.T) {
	x := built(t, 1)
	for text, cost := range map[string]int{".*": 0, "_": 0, "w*": 0, ".+": -1, "0": -1, "w+": -1, "w": -1, "(ww)*": 0} {
		checkFrom(t, x, compiled(t, text), 0, cost)
	}
	// It goes, with its loop in Up.
	x = built(t, 1, "0 0 f 4", "0 0 f 3", "0 0 f 3")
	for text, cost := range map[string]int{".*": 0, ".+": 3, "f+": 3, "w*": 0, "w+": -1, "f{2,2}": 6, "f": 3, "(ff)+": 6} {
		checkFrom(t, x, compiled(t, text), 0, cost)
	}
	checkEdges(t, x, steady(t, "f+"), 0, 0, 1)
	checkEdges(t, x, counting(t, "f{2,2}"), 0, 0, 1, 1)
	// It stays, with its loops in Up.
	x = built(t, 1, "0 0 w 4", "0 0 b 3", "0 0 b 6", "0 0 c 2147483647")
	for text, cost := range map[string]int{
		".*": 0, ".+": 3, "w+": 4, "b+": 3, "c+": api.MaxCost, "t+": -1, "t*": 0, "w+b+": 7, "(w+b+)*": 0, "(w+b+)+w+": 11, "w+c+": 4 + api.MaxCost,
		"ww": 8, "b{2,9}": 6, "wbw": 11, "w*f": -1, "cc": 2 * api.MaxCost,
	} {
		checkFrom(t, x, compiled(t, text), 0, cost)
	}
	checkEdges(t, x, steady(t, "(w+b+)+w+"), 0, 0, 0, 1, 0)
}

func TestP1301WithoutEdges(t *testing.T) {
	for _, vertices := range []int{2, 3, api.MaxNodes} {
		for _, edges := range [][]api.Edge{nil, {}} {
			x := hier.Build(api.Net{N: vertices, Edges: edges})
			for _, from := range []int{0, vertices / 2, vertices - 1} {
				want := slices.Repeat([]int{-1}, vertices)
				for _, text := range []string{".+", "0", "w+", "w", "wb"} {
					checkFrom(t, x, compiled(t, text), from, want...)
				}
				want[from] = 0
				for _, text := range []string{".*", "_", "w*", "(ww)*"} {
					checkFrom(t, x, compiled(t, text), from, want...)
				}
			}
		}
	}
}

// To itself it costs nothing, if the machine takes the word of none; else it is the least round: a loop, or there and back.
func TestP1301ToItself(t *testing.T) {
	there := []string{"0 1 w 5", "1 0 w 6"}
	for _, c := range []struct {
		edges []string
		loop  [2]int // of each vertex to itself, by w+
	}{
		{nil, [2]int{11, 11}},
		{[]string{"0 0 w 20"}, [2]int{11, 11}},
		{[]string{"0 0 w 11"}, [2]int{11, 11}},
		{[]string{"0 0 w 10"}, [2]int{10, 11}},
		{[]string{"0 0 w 0", "1 1 w 1"}, [2]int{0, 1}},
		{[]string{"1 1 w 12", "1 1 w 9"}, [2]int{11, 9}},
		{[]string{"0 0 t 1"}, [2]int{11, 11}}, // 0 is a link
		{[]string{"0 0 t 1", "0 0 w 10"}, [2]int{10, 11}},
		{[]string{"1 1 t 1"}, [2]int{11, 11}}, // 1 is one
		{[]string{"0 0 t 1", "1 1 b 1"}, [2]int{11, 11}},
		{[]string{"0 0 t 1", "1 1 b 1", "1 1 w 2"}, [2]int{11, 2}},
		{[]string{"0 2 w 1"}, [2]int{11, 11}}, // 1 goes ahead of 0
		{[]string{"2 1 w 1"}, [2]int{11, 11}}, // 0 goes ahead of 1
		{[]string{"0 2 w 1", "2 0 w 2"}, [2]int{3, 11}},
		{[]string{"0 2 w 1", "2 1 w 2", "0 0 f 1"}, [2]int{9, 9}},
	} {
		x := built(t, 3, append(c.edges, there...)...)
		for v, cost := range c.loop {
			checkRoute(t, x, steady(t, "w+"), v, v, cost)
			checkRoute(t, x, steady(t, "w*"), v, v, 0)
			checkRoute(t, x, steady(t, ".*"), v, v, 0)
			checkRoute(t, x, steady(t, "_"), v, v, 0)
			checkRoute(t, x, steady(t, "c*"), v, v, 0)
			checkRoute(t, x, steady(t, "c+"), v, v, -1)
			checkRoute(t, x, steady(t, "0"), v, v, -1)
			checkRoute(t, x, counting(t, "(ww)*"), v, v, 0)
			if r, is := query.Route(x, steady(t, "w*"), v, v); !is || len(r.Edges) > 0 {
				t.Errorf("%d to itself: %v, %v", v, r, is)
			}
		}
	}
	x := built(t, 2, "0 1 w 5", "1 0 w 6", "0 0 w 11")
	checkEdges(t, x, counting(t, "ww"), 0, 0, 0, 1)
	checkEdges(t, x, counting(t, "w"), 0, 0, 2)
}

// A row of vertices that go: first its ends, then the others by their numbers. No arc stands for more than one edge.
func TestP1301UpAloneAndDownAlone(t *testing.T) {
	x := built(t, 7, "0 1 w 1", "1 2 w 2", "2 3 w 4", "3 4 w 8", "4 5 w 16", "5 6 w 32")
	if !slices.Equal(x.Rank, []int{0, 2, 3, 4, 5, 6, 1}) || len(x.Arcs) != 6 || len(x.Down[6]) != 1 {
		t.Fatalf("%v", x)
	}
	for _, text := range []string{".*", "w+", "[wb]*", "w*b*", "w+|c+"} {
		d := steady(t, text)
		checkEdges(t, x, d, 0, 1, 0)
		checkEdges(t, x, d, 0, 5, 0, 1, 2, 3, 4) // up
		checkEdges(t, x, d, 2, 5, 2, 3, 4)
		checkEdges(t, x, d, 5, 6, 5) // down
		checkEdges(t, x, d, 0, 6, 0, 1, 2, 3, 4, 5)
		checkEdges(t, x, d, 3, 6, 3, 4, 5)
		for from := range 6 {
			checkRoute(t, x, d, 6, from, -1)
		}
	}
	checkFrom(t, x, steady(t, "w+"), 1, -1, -1, 2, 6, 14, 30, 62)
	checkFrom(t, x, steady(t, "w*"), 1, -1, 0, 2, 6, 14, 30, 62)
	checkFrom(t, x, steady(t, "w+b+"), 1, -1, -1, -1, -1, -1, -1, -1)
	// Turned, up is down.
	x = built(t, 7, "1 0 w 1", "2 1 w 2", "3 2 w 4", "4 3 w 8", "5 4 w 16", "6 5 w 32")
	checkEdges(t, x, steady(t, ".*"), 5, 0, 4, 3, 2, 1, 0) // down
	checkEdges(t, x, steady(t, ".*"), 6, 5, 5)             // up
	checkEdges(t, x, steady(t, ".*"), 6, 0, 5, 4, 3, 2, 1, 0)
	checkFrom(t, x, steady(t, "w+"), 3, 7, 6, 4, -1, -1, -1, -1)
}

// Between two that stay a row goes: ways from and to all of it are by arcs that stand for many edges.
func TestP1301ArcsOfManyEdges(t *testing.T) {
	x := built(t, 7, "0 0 t 9", "6 6 t 9", "0 1 w 1", "1 2 w 2", "2 3 w 4", "3 4 w 8", "4 5 w 16", "5 6 w 32")
	if !slices.Equal(x.Rank, []int{-1, 0, 1, 2, 3, 4, -1}) || len(hier.Unpack(x, x.Up[0][1])) != 6 || len(hier.Unpack(x, x.Down[5][0])) != 5 {
		t.Fatalf("%v", x)
	}
	row := []int{2, 3, 4, 5, 6, 7}
	for _, text := range []string{".*", "w+", "[wb]*", "w*t*", "t*w+"} {
		d := steady(t, text)
		for from := range 7 {
			for to := from + 1; to < 7; to++ {
				checkEdges(t, x, d, from, to, row[from:to]...)
				checkRoute(t, x, d, to, from, -1)
			}
		}
	}
	checkEdges(t, x, steady(t, "t+w+t+"), 0, 6, 0, 2, 3, 4, 5, 6, 7, 1)
	checkEdges(t, x, steady(t, "w+t+"), 3, 6, 5, 6, 7, 1)
	checkEdges(t, x, steady(t, "t+w+"), 0, 3, 0, 2, 3, 4)
	checkRoute(t, x, steady(t, "w+t+w+"), 0, 6, -1)
	checkFrom(t, x, steady(t, "t+w+"), 0, -1, 10, 12, 16, 24, 40, 72)
	// By a machine that counts, of the edges that they stand for.
	checkEdges(t, x, counting(t, "w{6,6}"), 0, 6, row...)
	checkEdges(t, x, counting(t, "tttw{3,3}"), 0, 3, 0, 0, 0, 2, 3, 4)
	checkRoute(t, x, counting(t, "w"), 0, 6, -1)
	checkRoute(t, x, counting(t, "w{5,5}"), 0, 6, -1)
	checkFrom(t, x, counting(t, "(ww)+"), 0, -1, -1, 3, -1, 15, -1, 63)
}

// Two harbours, 2 and 5, with two ferries there and back, between streets that go: 0 1 2, and 5 4 3.
func TestP1301LinksAndVerticesThatWent(t *testing.T) {
	x := built(t, 7,
		"0 1 w 1", "1 0 w 1", "1 2 w 2", "2 1 w 2", "5 4 b 3", "4 5 b 3", "4 3 b 4", "3 4 b 4",
		"2 5 f 20", "5 2 f 21", "2 5 t 50", "5 2 t 10", "6 6 c 8")
	if !slices.Equal(x.Rank, []int{0, 3, -1, 1, 4, -1, 2}) {
		t.Fatalf("%v", x.Rank)
	}
	any := steady(t, ".*")
	checkFrom(t, x, any, 0, 0, 1, 3, 30, 26, 23, -1)
	checkFrom(t, x, any, 1, 1, 0, 2, 29, 25, 22, -1)
	checkFrom(t, x, any, 2, 3, 2, 0, 27, 23, 20, -1)
	checkFrom(t, x, any, 3, 20, 19, 17, 0, 4, 7, -1)
	checkFrom(t, x, any, 4, 16, 15, 13, 4, 0, 3, -1)
	checkFrom(t, x, any, 5, 13, 12, 10, 7, 3, 0, -1)
	checkFrom(t, x, any, 6, -1, -1, -1, -1, -1, -1, 0)
	checkFrom(t, x, steady(t, ".+"), 6, -1, -1, -1, -1, -1, -1, 8)
	checkEdges(t, x, any, 0, 3, 0, 2, 8, 4, 6)
	checkEdges(t, x, any, 3, 0, 7, 5, 11, 3, 1)
	checkEdges(t, x, any, 0, 2, 0, 2)
	checkEdges(t, x, any, 2, 0, 3, 1)
	checkEdges(t, x, any, 2, 5, 8)
	checkEdges(t, x, any, 5, 2, 11)
	checkFrom(t, x, steady(t, "w*f*b*"), 0, 0, 1, 3, 30, 26, 23, -1)
	checkFrom(t, x, steady(t, "w*t*b*"), 0, 0, 1, 3, 60, 56, 53, -1)
	checkFrom(t, x, steady(t, "[wb]*"), 0, 0, 1, 3, -1, -1, -1, -1)
	checkFrom(t, x, steady(t, "w+f+b+"), 0, -1, -1, -1, 30, 26, 29, -1)
	checkFrom(t, x, steady(t, "w*f+t+w*"), 0, 36, 35, 33, -1, -1, 83, -1)
	checkFrom(t, x, steady(t, "f*t*f*b+"), 5, -1, -1, -1, 7, 3, 6, -1)
	checkFrom(t, x, steady(t, "b+[ft]+w+"), 3, 20, 19, 21, -1, -1, -1, -1)
	checkFrom(t, x, steady(t, "b+f+w+"), 3, 31, 30, 32, -1, -1, -1, -1)
	checkFrom(t, x, steady(t, "w+b+"), 0, -1, -1, -1, -1, -1, -1, -1)
	// Over the water and back: along the street once more.
	checkEdges(t, x, steady(t, ".*f+b+t+.*"), 0, 0, 0, 2, 8, 4, 5, 11, 3, 1)
	checkEdges(t, x, steady(t, ".*b+.*"), 2, 2, 8, 4, 5, 11)
	// By machines that count.
	checkEdges(t, x, counting(t, "w*fb"), 0, 4, 0, 2, 8, 4)
	checkEdges(t, x, counting(t, "f{3,3}"), 2, 5, 8, 9, 8)
	checkFrom(t, x, counting(t, "wwf"), 0, -1, -1, -1, -1, -1, 23, -1)
}

func TestP1301EdgesSideBySide(t *testing.T) {
	x := built(t, 2, "0 1 w 9", "0 1 b 4", "0 1 w 7", "0 1 c 6", "0 1 b 5", "0 1 w 8", "1 0 w 3", "1 0 w 2")
	for _, c := range []struct {
		text string
		edge int
	}{{"w+", 2}, {"b+", 1}, {"c*", 3}, {"[wb]*", 1}, {"[wc]+", 3}, {".*", 1}, {"[wft]*", 2}, {"w*", 2}, {".", 1}, {"w", 2}} {
		checkEdges(t, x, compiled(t, c.text), 0, 1, c.edge)
	}
	checkEdges(t, x, steady(t, "w+"), 0, 0, 2, 7)
	checkEdges(t, x, steady(t, "b+w+"), 0, 0, 1, 7)
	checkFrom(t, x, steady(t, "w+"), 0, 9, 7)
	checkFrom(t, x, steady(t, "b+"), 0, -1, 4)
	// Both go.
	x = built(t, 3, "0 1 w 9", "0 1 w 4", "0 1 w 4", "1 2 w 3", "1 2 w 1", "0 2 w 5", "0 2 w 8")
	checkFrom(t, x, steady(t, "w+"), 0, -1, 4, 5)
	checkFrom(t, x, counting(t, "ww"), 0, -1, -1, 5)
	checkEdges(t, x, counting(t, "ww"), 0, 2, 1, 4)
	// A way round that costs less than the edge, and one that costs more.
	checkEdges(t, built(t, 3, "0 1 w 1", "1 2 w 3", "0 2 w 5"), steady(t, "w+"), 0, 2, 0, 1)
	checkEdges(t, built(t, 3, "0 1 w 2", "1 2 w 3", "0 2 w 4"), steady(t, "w+"), 0, 2, 2)
	checkEdges(t, built(t, 3, "0 0 b 1", "0 1 w 1", "1 2 w 3", "0 2 w 5", "2 2 b 1"), steady(t, "w+"), 0, 2, 1, 2)
	checkEdges(t, built(t, 3, "0 0 b 1", "0 1 w 2", "1 2 w 3", "0 2 w 4", "2 2 b 1"), steady(t, "w+"), 0, 2, 3)
}

func TestP1301Loops(t *testing.T) {
	x := built(t, 2, "0 0 w 5", "0 0 b 3", "0 1 t 10", "1 1 t 1", "1 1 t 0")
	checkFrom(t, x, steady(t, ".*"), 0, 0, 10)
	checkFrom(t, x, steady(t, ".+"), 0, 3, 10)
	checkFrom(t, x, steady(t, "w+"), 0, 5, -1)
	checkFrom(t, x, steady(t, "t+"), 1, -1, 0)
	checkFrom(t, x, steady(t, "w+b+t+"), 0, -1, 18)
	checkFrom(t, x, steady(t, "(w+b+)+t*"), 0, 8, 18)
	checkFrom(t, x, steady(t, "b+w+b+t+"), 0, -1, 21)
	checkEdges(t, x, steady(t, "b+w+b+t+"), 0, 1, 1, 0, 1, 2)
	checkEdges(t, x, counting(t, "wbttt"), 0, 1, 0, 1, 2, 4, 4)
	checkFrom(t, x, counting(t, "w{9,9}t"), 0, -1, 55)
}

func TestP1301CostsOfZero(t *testing.T) {
	x := built(t, 4, "0 1 w 0", "1 0 w 0", "1 2 w 0", "2 1 b 0", "2 3 t 1", "3 3 c 0", "0 3 f 1")
	checkFrom(t, x, steady(t, ".*"), 0, 0, 0, 0, 1)
	checkFrom(t, x, steady(t, ".+"), 0, 0, 0, 0, 1)
	checkFrom(t, x, steady(t, "w+"), 0, 0, 0, 0, -1)
	checkFrom(t, x, steady(t, "w+b+w+t*"), 0, 0, 0, 0, 1)
	checkFrom(t, x, steady(t, "[wt]*c+"), 0, -1, -1, -1, 1)
	for _, length := range []int{1, 2, 3, 30} {
		n := api.Net{N: length}
		for v := range length {
			n.Edges = append(n.Edges, api.Edge{From: v, To: (v + 1) % length, Mode: 2})
		}
		for range 2 { // as all go, and as the last one stays
			for _, text := range []string{".*", "c+", "(c+t+)*c+", "b*", "(cc)+"} {
				checkSame(t, n, compiled(t, text))
			}
			n.Edges = append(n.Edges, api.Edge{From: length - 1, To: length - 1, Mode: 4})
		}
	}
}

func TestP1301GreatestCosts(t *testing.T) {
	n := api.Net{N: api.MaxNodes}
	var want []int
	for v := range api.MaxNodes {
		n.Edges = append(n.Edges, api.Edge{From: v, To: (v + 1) % n.N, Mode: 3, Cost: api.MaxCost})
		want = append(want, v*api.MaxCost)
	}
	for range 2 { // as all go, and as 0 stays
		x := hier.Build(n)
		checkFrom(t, x, steady(t, "f*"), 0, want...)
		checkFrom(t, x, steady(t, ".*"), 0, want...)
		checkRoute(t, x, steady(t, "f+"), 0, 0, 60*api.MaxCost)
		checkRoute(t, x, steady(t, "f+"), 30, 29, 59*api.MaxCost)
		checkRoute(t, x, steady(t, "f+"), 31, 31, 60*api.MaxCost)
		checkRoute(t, x, counting(t, "f{1,9}"), 0, 9, 9*api.MaxCost)
		n.Edges = append(n.Edges, api.Edge{Mode: 0, Cost: api.MaxCost})
	}
	x := hier.Build(n)
	checkRoute(t, x, steady(t, "f+w+f+"), 1, 1, 61*api.MaxCost)
	checkRoute(t, x, steady(t, "w+f+"), 0, 0, 61*api.MaxCost)
	n.Edges[30].Cost--
	checkRoute(t, hier.Build(n), steady(t, "w+f+w+"), 0, 0, 62*api.MaxCost-1)
}

func TestP1301AllStay(t *testing.T) {
	d := dice(13011)
	for range 60 {
		vertices := 1 + d.below(9)
		n := d.anyNet(vertices, d.below(3*vertices))
		for v := range vertices {
			n.Edges = append(n.Edges, api.Edge{From: v, To: v, Mode: 0, Cost: d.below(9)}, api.Edge{From: v, To: v, Mode: 1, Cost: d.below(9)})
		}
		if x := hier.Build(n); slices.Max(x.Rank) != -1 {
			t.Fatalf("%v", x.Rank)
		}
		checkSame(t, n, d.anySteady(1+d.below(6)))
		checkSame(t, n, d.anyMachine(1+d.below(6)))
	}
}

// All of one mode, so that all go.
func TestP1301AllGo(t *testing.T) {
	d := dice(13012)
	for range 150 {
		vertices := 1 + d.below(9)
		n := d.anyNet(vertices, d.below(4*vertices))
		for i := range n.Edges {
			n.Edges[i].Mode = 3
		}
		if x := hier.Build(n); slices.Min(x.Rank) != 0 {
			t.Fatalf("%v", x.Rank)
		}
		for _, text := range []string{".*", "f+", "f*", ".+", "[wf]+", "w*", "(ff)*", "f{2,3}", "(f+w+)*f*"} {
			checkSame(t, n, compiled(t, text))
		}
		checkSame(t, n, d.anySteady(1+d.below(6)))
	}
}

// All networks of two vertices and up to two edges of two modes, held against all their walks, by all machines of two states that tell two modes apart.
func TestP1301AllSmallOnes(t *testing.T) {
	steadily := 0
	for edges := range 3 {
		for which := range 1 << (4 * edges) {
			n := api.Net{N: 2}
			for i := range edges {
				bits := which >> (4 * i)
				n.Edges = append(n.Edges, api.Edge{From: bits & 1, To: bits >> 1 & 1, Mode: bits >> 2 & 1, Cost: 2*(bits>>3&1) + i*(bits>>3&1)})
			}
			x := hier.Build(n)
			for bits := range 64 {
				d := sized(2)
				for state := range 2 {
					w, b := bits>>(2*state)&1, bits>>(2*state+1)&1
					d.Next[state] = [api.Modes]int{w, b, w, b, w}
					d.Accept[state] = bits>>(4+state)&1 == 1
				}
				if mini.Steady(d) {
					steadily++
				}
				for from := range 2 { // four pairs: a least walk of more than three edges would come to one of them again
					checkFrom(t, x, d, from, everyWalk(n, d, from, 0, 3), everyWalk(n, d, from, 1, 3))
				}
			}
		}
	}
	if steadily != 273*36 {
		t.Errorf("%d by machines that are steady", steadily)
	}
}

// Some of up to four vertices, held against all their walks.
func TestP1301SomeSmallOnes(t *testing.T) {
	d := dice(13013)
	for range 600 {
		states := 1 + d.below(3)
		n := d.anyNet(1+d.below(1+7/states), d.below(4))
		m := d.anySteady(states)
		if d.below(4) == 0 {
			m = d.anyMachine(states)
		}
		x := hier.Build(n)
		for from := range n.N {
			var want []int
			for to := range n.N {
				want = append(want, everyWalk(n, m, from, to, n.N*states-1))
			}
			checkFrom(t, x, m, from, want...)
		}
	}
}

// Of all walks the longest that is the least: through each state at each vertex where its modes lead.
func TestP1301TheLongestWalk(t *testing.T) {
	n, d := api.Net{N: 58}, sized(2000)
	for v := range n.N {
		n.Edges = append(n.Edges, api.Edge{From: v, To: (v + 1) % n.N, Mode: v % 2, Cost: api.MaxCost})
	}
	for state := range d.Next { // w leads from the even ones, b from the odd ones, to the next one; all else stays
		d.Next[state] = [api.Modes]int{state, state, state, state, state}
		d.Next[state][state%2] = (state + 1) % 2000
	}
	d.Accept[1999] = true
	if !mini.Steady(d) {
		t.Fatal("not steady")
	}
	x := hier.Build(n)
	want := slices.Repeat([]int{-1}, n.N)
	for edges := 1999; edges < 58000; edges += 2000 {
		want[edges%58] = edges * api.MaxCost
	}
	all := make([]int, n.N)
	for v := range all {
		all[v] = v
	}
	checkMany(t, x, d, 0, all, want)
	checkRoute(t, x, d, 0, 57, 57999*api.MaxCost)
	checkRoute(t, x, d, 0, 56, -1)
	if r, _ := query.Route(x, d, 0, 57); len(r.Edges) != 57999 {
		t.Errorf("%d edges", len(r.Edges))
	}
}

func TestP1301TheMostOfAll(t *testing.T) {
	d := dice(13014)
	for range 4 {
		n := d.anyNet(api.MaxNodes, api.MaxEdges)
		x := hier.Build(n)
		for _, m := range []api.Dfa{d.anySteady(2000), d.anyMachine(2000), d.several(steady(t, "w*b*c*f*t*"), 2000)} {
			for state := range m.Accept {
				m.Accept[state] = m.Accept[state] && state%7 == 6
			}
			for _, from := range []int{0, 31, 59} {
				want := product.Costs(n, m, from)
				all := []int{59, 0, 17, 31, 31}
				checkMany(t, x, m, from, all, []int{want[59], want[0], want[17], want[31], want[31]})
				checkRoute(t, x, m, from, 59, want[59])
				checkRoute(t, x, m, from, 30, want[30])
			}
		}
	}
}

// States that no word leads to, and states twice: as by the least machine.
func TestP1301MachinesThatAreNotTheLeast(t *testing.T) {
	d := dice(13015)
	for i := range 200 {
		m := d.anySteady(1 + d.below(5))
		if i%4 == 0 {
			m = d.anyMachine(1 + d.below(5))
		}
		larger := d.several(m, len(m.Next)+d.below(20))
		least := mini.Minimize(m)
		if mini.Steady(larger) != mini.Steady(m) || !mini.Same(mini.Minimize(larger), least) {
			t.Fatal("another machine")
		}
		vertices := 1 + d.below(8)
		n := d.anyNet(vertices, d.below(4*vertices))
		x := hier.Build(n)
		for from := range vertices {
			want := product.Costs(n, least, from)
			for _, same := range []api.Dfa{m, larger, least} {
				checkFrom(t, x, same, from, want...)
			}
		}
	}
	// A state that no word leads to is not steady, so the machine is not; what it takes is.
	m := steady(t, "w+")
	states := len(m.Next)
	m.Next = append(m.Next, [api.Modes]int{states + 1, 0, 0, 0, 0}, [api.Modes]int{states, 0, 0, 0, 0})
	m.Accept = append(m.Accept, true, true)
	if mini.Steady(m) {
		t.Fatal("steady")
	}
	x := built(t, 4, "0 0 t 9", "0 1 w 1", "1 2 w 1", "2 3 w 1", "3 3 t 9")
	checkFrom(t, x, m, 0, -1, 1, 2, 3)
	checkFrom(t, x, steady(t, "w+"), 0, -1, 1, 2, 3)
}

func TestP1301NoStateAcceptsOrAll(t *testing.T) {
	d := dice(13016)
	for range 60 {
		vertices := 1 + d.below(8)
		n := d.anyNet(vertices, d.below(4*vertices))
		x := hier.Build(n)
		for _, m := range []api.Dfa{d.anySteady(1 + d.below(8)), d.anyMachine(1 + d.below(8))} {
			for state := range m.Accept {
				m.Accept[state] = true
			}
			for from := range vertices { // no word is refused, so it is as if there were one state
				checkFrom(t, x, m, from, product.Costs(n, steady(t, ".*"), from)...)
			}
			clear(m.Accept)
			for from := range vertices {
				checkFrom(t, x, m, from, slices.Repeat([]int{-1}, vertices)...)
			}
		}
	}
}
