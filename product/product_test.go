package product_test

import (
	"slices"
	"strings"
	"testing"

	"milestone/api"
	"milestone/dfa"
	"milestone/mini"
	"milestone/net"
	"milestone/product"
)

// network is one of so many vertices, its edges written as in a network's text.
func network(t *testing.T, vertices string, edges ...string) api.Net {
	t.Helper()
	text := "net " + vertices + "\n"
	for _, e := range edges {
		text += "edge " + e + "\n"
	}
	n, line, e := net.Parse(text)
	if e != api.OK {
		t.Fatalf("%s: line %d", text, line)
	}
	return n
}

func compiled(t *testing.T, text string) api.Dfa {
	t.Helper()
	d, e := mini.Compile(text)
	if e != api.OK {
		t.Fatalf("%s: %v", text, e)
	}
	return d
}

// sized is a machine of so many states, all of whose modes lead to 0.
func sized(states int) api.Dfa {
	return api.Dfa{Next: make([][api.Modes]int, states), Accept: make([]bool, states)}
}

// round is a machine whose modes all lead once round its states, of which it accepts in these.
func round(states int, accept ...int) api.Dfa {
	d := sized(states)
	for state := range states {
		to := (state + 1) % states
		d.Next[state] = [api.Modes]int{to, to, to, to, to}
	}
	for _, state := range accept {
		d.Accept[state] = true
	}
	return d
}

// ring is a network whose edges lead once round its vertices, all of them by this mode at this cost.
func ring(vertices, mode, cost int) api.Net {
	n := api.Net{N: vertices}
	for v := range vertices {
		n.Edges = append(n.Edges, api.Edge{From: v, To: (v + 1) % vertices, Mode: mode, Cost: cost})
	}
	return n
}

// row is a ring without its last edge.
func row(vertices, mode, cost int) api.Net {
	n := ring(vertices, mode, cost)
	n.Edges = n.Edges[:vertices-1]
	return n
}

// plainly are the least costs of each vertex, by a plain count over all pairs of vertex and state: by one edge more each time, until nothing costs less.
func plainly(n api.Net, d api.Dfa, from int) []int {
	many := len(d.Next)
	cost := slices.Repeat([]int{-1}, n.N*many)
	cost[from*many] = 0
	for less := true; less; {
		less = false
		for _, e := range n.Edges {
			for state, row := range d.Next {
				was, to := cost[e.From*many+state], e.To*many+row[e.Mode]
				if was >= 0 && (cost[to] < 0 || was+e.Cost < cost[to]) {
					cost[to], less = was+e.Cost, true
				}
			}
		}
	}
	costs := slices.Repeat([]int{-1}, n.N)
	for v := range costs {
		for state, c := range cost[v*many : (v+1)*many] {
			if d.Accept[state] && c >= 0 && (costs[v] < 0 || c < costs[v]) {
				costs[v] = c
			}
		}
	}
	return costs
}

// everyWalk is the least cost of all rows of no more edges than most that are a walk whose word is taken; -1: none is.
func everyWalk(n api.Net, d api.Dfa, from, to, most int) int {
	least := -1
	rows := [][]int{nil}
	for i := 0; i < len(rows); i++ {
		if cost, word, is := net.Walk(n, from, to, rows[i]); is && dfa.Run(d, word) && (least < 0 || cost < least) {
			least = cost
		}
		if len(rows[i]) < most {
			for e := range n.Edges {
				rows = append(rows, append(slices.Clone(rows[i]), e))
			}
		}
	}
	return least
}

// checkRoute holds Route and Both against the least cost, -1 if there is no walk; what Route tells is a walk of it that d takes.
func checkRoute(t *testing.T, n api.Net, d api.Dfa, from, to, want int) {
	t.Helper()
	r, is := product.Route(n, d, from, to)
	both, isBoth := product.Both(n, d, from, to)
	if want < 0 {
		if is || r.Cost != 0 || len(r.Edges) > 0 || isBoth || both != 0 {
			t.Errorf("%d to %d: Route %v, %v, Both %d, %v, not none, in %s", from, to, r, is, both, isBoth, show(n, d))
		}
		return
	}
	cost, word, isWalk := net.Walk(n, from, to, r.Edges)
	if !is || r.Cost != want || !isWalk || cost != want || !dfa.Run(d, word) {
		t.Errorf("%d to %d: Route %d, %v, a walk: %v of %d, %d edges, not %d, in %s", from, to, r.Cost, is, isWalk, cost, len(r.Edges), want, show(n, d))
	}
	if !isBoth || both != want {
		t.Errorf("%d to %d: Both %d, %v, not %d, in %s", from, to, both, isBoth, want, show(n, d))
	}
}

// checkFrom holds Costs against the least costs to each vertex, and Route and Both to each.
func checkFrom(t *testing.T, n api.Net, d api.Dfa, from int, want ...int) {
	t.Helper()
	if got := product.Costs(n, d, from); !slices.Equal(got, want) {
		t.Errorf("Costs from %d: %v, not %v, in %s", from, got, want, show(n, d))
	}
	for to, cost := range want {
		checkRoute(t, n, d, from, to, cost)
	}
}

// checkPlainly holds all against the plain count, from each vertex to each.
func checkPlainly(t *testing.T, n api.Net, d api.Dfa) {
	t.Helper()
	for from := range n.N {
		checkFrom(t, n, d, from, plainly(n, d, from)...)
	}
}

// checkEdges holds the edges of a route against those that are wanted: the only ones of that cost.
func checkEdges(t *testing.T, n api.Net, d api.Dfa, from, to int, want ...int) {
	t.Helper()
	if r, is := product.Route(n, d, from, to); !is || !slices.Equal(r.Edges, want) {
		t.Errorf("%d to %d: %v, %v, not %v, in %s", from, to, r, is, want, show(n, d))
	}
}

// show writes a network and a machine, if they are short.
func show(n api.Net, d api.Dfa) string {
	if len(n.Edges) > 30 || len(d.Next) > 15 {
		return "a large one"
	}
	var b strings.Builder
	b.WriteString(strings.ReplaceAll(net.Text(n), "\n", "; "))
	for state, row := range d.Next {
		for _, to := range row {
			b.WriteByte("0123456789abcdef"[to])
		}
		if d.Accept[state] {
			b.WriteByte('!')
		}
		b.WriteByte(' ')
	}
	return b.String()
}

// texts are expressions that take the word of none, or not, that count, that forbid a mode, that ask for an order.
func texts() []string {
	return []string{".*", ".+", "_", "0", "w", "w*", "w+", "w*b*", "w+c*w+", "[wb]*t?[wb]*", "(ww)*", "w{2,3}", "w*(t+w*)*", "c+|w+", "w*b*c*f*t*", "(wb)*", ".{3,3}", ".{0,2}", "w+(b+w+)*", "b?w+", "(w|bc)*", "[wbc]*f[wbc]*f?"}
}

func TestP901RouteToItself(t *testing.T) {
	n := network(t, "3", "0 1 w 5", "1 0 w 6", "1 0 b 1", "0 0 t 30", "2 2 w 0", "1 2 f 2")
	for _, x := range []struct {
		text  string
		costs [3]int // of each vertex to itself
	}{
		{".*", [3]int{0, 0, 0}},
		{"_", [3]int{0, 0, 0}},
		{"f*", [3]int{0, 0, 0}},
		{".+", [3]int{6, 6, 0}},
		{"w+", [3]int{11, 11, 0}},
		{".*b.*", [3]int{6, 6, -1}},
		{"t+", [3]int{30, -1, -1}},
		{"t{2,2}", [3]int{60, -1, -1}},
		{".*t.*", [3]int{30, 36, -1}},
		{"(..)+", [3]int{6, 6, 0}},
		{"...", [3]int{36, 36, 0}},
		{"f", [3]int{-1, -1, -1}},
		{"0", [3]int{-1, -1, -1}},
	} {
		d := compiled(t, x.text)
		for v, cost := range x.costs {
			checkRoute(t, n, d, v, v, cost)
			if got := product.Costs(n, d, v)[v]; got != cost {
				t.Errorf("%s: Costs from %d to itself: %d, not %d", x.text, v, got, cost)
			}
		}
	}
	checkEdges(t, n, compiled(t, "w*"), 0, 0)
	checkEdges(t, n, compiled(t, "_"), 1, 1)
	checkEdges(t, n, compiled(t, ".+"), 0, 0, 0, 2)
	checkEdges(t, n, compiled(t, ".+"), 1, 1, 2, 0)
	checkEdges(t, n, compiled(t, "w+"), 1, 1, 1, 0)
	checkEdges(t, n, compiled(t, "t{2,3}"), 0, 0, 3, 3)
}

func TestP901NoWalkAtAll(t *testing.T) {
	n := network(t, "5", "1 0 w 1", "2 1 w 1", "0 0 b 1", "3 4 w 0", "4 3 w 0")
	for _, text := range []string{".*", "w*", ".+", "[wb]*"} {
		d := compiled(t, text)
		for _, to := range []int{1, 2, 3, 4} {
			checkRoute(t, n, d, 0, to, -1)
		}
		checkRoute(t, n, d, 1, 3, -1)
		checkRoute(t, n, d, 4, 0, -1)
	}
	checkFrom(t, n, compiled(t, ".*"), 0, 0, -1, -1, -1, -1)
	checkFrom(t, n, compiled(t, ".*"), 2, 2, 1, 0, -1, -1)
	checkFrom(t, n, compiled(t, "w+"), 2, 2, 1, -1, -1, -1)
}

func TestP901NoWalkWhoseWordIsTaken(t *testing.T) {
	n := network(t, "4", "0 1 w 1", "1 2 b 1", "2 3 w 1", "0 3 c 100", "1 1 f 0")
	for _, x := range []struct {
		text string
		cost int
	}{
		{"wbw", 3}, {"w*", -1}, {"b*", -1}, {"wb", -1}, {"bw*", -1}, {"wbwb", -1}, {"c", 100}, {"cc", -1}, {".", 100},
		{"..", -1}, {"w.w", 3}, {"....", 3}, {".*t.*", -1}, {"wf+bw", 3}, {"wbf+w", -1}, {"0", -1}, {"_", -1}, {"w+b+w+|c", 3}, {".*[ct].*", 100},
	} {
		checkRoute(t, n, compiled(t, x.text), 0, 3, x.cost)
	}
	checkFrom(t, n, compiled(t, "w*b?"), 0, 0, 1, 2, -1)
	checkFrom(t, n, compiled(t, "t+"), 0, -1, -1, -1, -1)
	checkFrom(t, n, compiled(t, "0"), 0, -1, -1, -1, -1)
	checkFrom(t, n, compiled(t, "_"), 2, -1, -1, 0, -1)
}

// The least walk comes to one vertex again, in another state, and goes over one edge again.
func TestP901OneVertexAndOneEdgeSeveralTimes(t *testing.T) {
	n := network(t, "3", "0 1 w 2", "1 0 w 3", "1 2 b 1", "1 1 c 7")
	checkEdges(t, n, compiled(t, "www*b"), 0, 2, 0, 1, 0, 2)
	checkEdges(t, n, compiled(t, "w{4,9}b"), 0, 2, 0, 1, 0, 1, 0, 2)
	checkEdges(t, n, compiled(t, ".*c.*c.*b"), 0, 2, 0, 3, 3, 2)
	checkEdges(t, n, compiled(t, "w*ccww+b"), 0, 2, 0, 3, 3, 1, 0, 2)
	checkEdges(t, n, compiled(t, "(w|c)+wwb"), 0, 2, 0, 1, 0, 2)
	checkFrom(t, n, compiled(t, "w{5,5}"), 0, -1, 12, -1)
	checkFrom(t, n, compiled(t, "(www)+"), 0, 15, 7, -1)
	checkFrom(t, n, compiled(t, "(www)*"), 1, 8, 0, -1)
	checkFrom(t, n, compiled(t, "w{3,4}|wc"), 1, 8, 10, -1)

	// The dearer way to 1 is the one from which the mode of the last edge is allowed.
	n = network(t, "3", "0 1 w 1", "0 1 b 9", "1 2 t 1")
	checkEdges(t, n, compiled(t, "bt|w"), 0, 2, 1, 2)
	checkFrom(t, n, compiled(t, "bt|w"), 0, -1, 1, 10)
}

func TestP901EdgesSideBySide(t *testing.T) {
	n := network(t, "2", "0 1 w 9", "0 1 b 4", "0 1 w 7", "0 1 c 6", "0 1 b 5", "0 1 w 8", "1 0 w 3", "1 0 w 2")
	for _, x := range []struct {
		text string
		edge int
	}{{"w", 2}, {"b", 1}, {"c", 3}, {"[wb]", 1}, {"[wc]", 3}, {".", 1}, {"[wft]*", 2}} {
		checkEdges(t, n, compiled(t, x.text), 0, 1, x.edge)
	}
	checkEdges(t, n, compiled(t, "w+"), 0, 0, 2, 7)
	checkFrom(t, n, compiled(t, "w+"), 0, 9, 7)
	checkFrom(t, n, compiled(t, "b+"), 0, -1, 4)
	checkFrom(t, n, compiled(t, "[ft]*"), 0, 0, -1)
}

func TestP901Loops(t *testing.T) {
	n := network(t, "2", "0 0 w 5", "0 0 b 3", "0 1 t 10", "1 1 w 1", "1 1 w 0")
	checkFrom(t, n, compiled(t, ".*"), 0, 0, 10)
	checkFrom(t, n, compiled(t, ".+"), 0, 3, 10)
	checkFrom(t, n, compiled(t, "w+"), 0, 5, -1)
	checkFrom(t, n, compiled(t, "w+"), 1, -1, 0)
	checkFrom(t, n, compiled(t, "(wb)+t?"), 0, 8, 18)
	checkFrom(t, n, compiled(t, "w{9,9}tw{9,9}"), 0, -1, 55)
	checkEdges(t, n, compiled(t, "wbtww"), 0, 1, 0, 1, 2, 4, 4)
}

func TestP901CostsOfZero(t *testing.T) {
	n := network(t, "4", "0 1 w 0", "1 0 w 0", "1 2 w 0", "2 1 b 0", "2 3 t 1", "3 3 c 0", "0 3 f 1")
	checkFrom(t, n, compiled(t, ".*"), 0, 0, 0, 0, 1)
	checkFrom(t, n, compiled(t, ".+"), 0, 0, 0, 0, 1)
	checkFrom(t, n, compiled(t, "w{9,9}"), 0, -1, 0, -1, -1)
	checkFrom(t, n, compiled(t, "w{8,8}"), 0, 0, -1, 0, -1)
	checkFrom(t, n, compiled(t, "ww(bw){7,7}tccc"), 0, -1, -1, -1, 1)
	for _, mode := range []int{0, 4} {
		for _, length := range []int{1, 2, 60} {
			for _, states := range []int{1, 7, 60, 100} {
				checkFrom(t, ring(length, mode, 0), round(states, states-1), 0, plainly(ring(length, mode, 0), round(states, states-1), 0)...)
			}
		}
	}
}

func TestP901GreatestCosts(t *testing.T) {
	n := row(api.MaxNodes, 3, api.MaxCost)
	var want []int
	for v := range n.N {
		want = append(want, v*api.MaxCost)
	}
	checkFrom(t, n, compiled(t, "f*"), 0, want...)
	checkFrom(t, n, round(1, 0), 0, want...)
	checkRoute(t, n, compiled(t, "f*"), 1, 0, -1)
	checkRoute(t, n, round(api.MaxNodes, api.MaxNodes-1), 0, api.MaxNodes-1, 59*api.MaxCost)
	n.Edges[30].Cost = api.MaxCost - 1
	checkRoute(t, n, compiled(t, "f*"), 0, api.MaxNodes-1, 59*api.MaxCost-1)
	n.Edges = append(n.Edges, api.Edge{From: 0, To: 59, Mode: 2, Cost: api.MaxCost})
	checkRoute(t, n, compiled(t, "f*"), 0, api.MaxNodes-1, 59*api.MaxCost-1)
	checkRoute(t, n, compiled(t, "[fc]*"), 0, api.MaxNodes-1, api.MaxCost)
}

// The longest of all least walks: through each state at each vertex, as there is no number of rounds that is one of both.
func TestP901TheLongestWalk(t *testing.T) {
	n, d := ring(59, 1, api.MaxCost), round(2000, 1999)
	r, is := product.Route(n, d, 0, 58)
	if !is || len(r.Edges) != 117999 {
		t.Errorf("%d edges, %v", len(r.Edges), is)
	}
	checkRoute(t, n, d, 0, 58, 117999*api.MaxCost)
	want := make([]int, 59)
	for edges := 1999; edges < 118000; edges += 2000 {
		want[edges%59] = edges * api.MaxCost
	}
	if got := product.Costs(n, d, 0); !slices.Equal(got, want) {
		t.Errorf("Costs: %v, not %v", got, want)
	}
}

func TestP901NoEdges(t *testing.T) {
	for _, vertices := range []int{1, 2, 60} {
		for _, edges := range [][]api.Edge{nil, {}} {
			n := api.Net{N: vertices, Edges: edges}
			for _, from := range []int{0, vertices / 2, vertices - 1} {
				none := slices.Repeat([]int{-1}, vertices)
				checkFrom(t, n, compiled(t, ".+"), from, none...)
				checkFrom(t, n, compiled(t, "0"), from, none...)
				none[from] = 0
				checkFrom(t, n, compiled(t, ".*"), from, none...)
				checkFrom(t, n, compiled(t, "_"), from, none...)
			}
		}
	}
}

func TestP901OneVertex(t *testing.T) {
	n := network(t, "1", "0 0 w 4", "0 0 b 3", "0 0 b 6", "0 0 c 2147483647")
	for text, cost := range map[string]int{".*": 0, ".+": 3, "w": 4, "ww": 8, "b{2,9}": 6, "wbw": 11, "cc": 2 * api.MaxCost, "t": -1, "t*": 0, "w*f": -1, "(wb)+": 7} {
		checkFrom(t, n, compiled(t, text), 0, cost)
	}
	checkFrom(t, n, round(2000, 1999), 0, 1999*3)
	checkFrom(t, n, round(2000, 0, 1999), 0, 0)
	checkFrom(t, n, round(2000), 0, -1)
}

func TestP901MachinesOfOneState(t *testing.T) {
	d := dice(9011)
	for range 40 {
		n := d.anyNet(1+d.below(8), d.below(20), 5)
		checkPlainly(t, n, round(1, 0))
		checkPlainly(t, n, round(1))
	}
}

func TestP901AllStatesAcceptOrNone(t *testing.T) {
	d := dice(9012)
	for range 60 {
		n, m := d.anyNet(1+d.below(7), d.below(20), 1+d.below(5)), d.anyMachine(1+d.below(9))
		for state := range m.Accept {
			m.Accept[state] = true
		}
		checkPlainly(t, n, m)
		for from := range n.N { // no word is refused, so it is as if there were one state
			checkFrom(t, n, m, from, plainly(n, round(1, 0), from)...)
		}
		clear(m.Accept)
		none := slices.Repeat([]int{-1}, n.N)
		for from := range n.N {
			checkFrom(t, n, m, from, none...)
		}
	}
}

// A state that accepts, but that no walk leads to, is none.
func TestP901StatesThatAreNotReached(t *testing.T) {
	d := round(3, 0)
	d.Next[0] = [api.Modes]int{0, 1, 0, 0, 0}
	d.Accept[2] = true
	d.Next[1] = [api.Modes]int{1, 1, 0, 1, 1}
	d.Next[2] = [api.Modes]int{0, 0, 0, 0, 0}
	n := network(t, "3", "0 1 b 2", "1 2 w 1", "2 1 c 4", "0 2 t 50")
	checkFrom(t, n, d, 0, 0, 7, 8)
	checkPlainly(t, n, d)
}

func TestP901TheMostOfAll(t *testing.T) {
	d := dice(9013)
	for _, modes := range []int{1, 5} {
		n := d.anyNet(api.MaxNodes, api.MaxEdges, modes)
		m := d.anyMachine(2000)
		for state := range m.Accept {
			m.Accept[state] = state%700 == 699
		}
		for _, from := range []int{0, 59} {
			want := plainly(n, m, from)
			if got := product.Costs(n, m, from); !slices.Equal(got, want) {
				t.Errorf("Costs from %d: %v, not %v", from, got, want)
			}
			for _, to := range []int{0, 31, 59} {
				checkRoute(t, n, m, from, to, want[to])
			}
		}
		clear(m.Accept)
		checkRoute(t, n, m, 0, 59, -1)
		for state := range m.Accept { // no word is refused, so it is as if there were one state
			m.Accept[state] = true
		}
		want := plainly(n, round(1, 0), 31)
		if got := product.Costs(n, m, 31); !slices.Equal(got, want) {
			t.Errorf("Costs from 31: %v, not %v", got, want)
		}
		for _, to := range []int{0, 31, 59} {
			checkRoute(t, n, m, 31, to, want[to])
		}
		checkPlainly(t, n, round(1, 0))
		checkPlainly(t, n, compiled(t, "[wb]*t?[wb]*c*"))
	}
}

// All networks of two vertices and up to two edges of two modes, held against all their walks, by all machines of two states that tell two modes apart.
func TestP901AllSmallOnes(t *testing.T) {
	for edges := range 3 {
		for which := range 1 << (4 * edges) {
			n := api.Net{N: 2}
			for i := range edges {
				bits := which >> (4 * i)
				n.Edges = append(n.Edges, api.Edge{From: bits & 1, To: bits >> 1 & 1, Mode: bits >> 2 & 1, Cost: 2*(bits>>3&1) + i*(bits>>3&1)})
			}
			for bits := range 64 {
				d := sized(2)
				for state := range 2 {
					w, b := bits>>(2*state)&1, bits>>(2*state+1)&1
					d.Next[state] = [api.Modes]int{w, b, w, b, w}
					d.Accept[state] = bits>>(4+state)&1 == 1
				}
				for from := range 2 { // four pairs: a least walk of more than three edges would come to one of them again
					checkFrom(t, n, d, from, everyWalk(n, d, from, 0, 3), everyWalk(n, d, from, 1, 3))
				}
			}
		}
	}
}

// Some of three vertices or states, held against all their walks.
func TestP901SomeSmallOnes(t *testing.T) {
	d := dice(9014)
	for range 300 {
		states := 1 + d.below(3)
		n, m := d.anyNet(1+d.below(6/states), d.below(4), 1+d.below(3)), d.anyMachine(states)
		for from := range n.N {
			var want []int
			for to := range n.N {
				want = append(want, everyWalk(n, m, from, to, n.N*states-1))
			}
			checkFrom(t, n, m, from, want...)
		}
	}
}

func TestP901AgainstAPlainCount(t *testing.T) {
	d := dice(9015)
	for range 800 {
		checkPlainly(t, d.anyNet(1+d.below(8), d.below(25), 1+d.below(5)), d.anyMachine(1+d.below(9)))
	}
	for _, text := range texts() {
		for range 15 {
			checkPlainly(t, d.anyNet(1+d.below(9), d.below(30), 1+d.below(5)), compiled(t, text))
		}
	}
	for range 20 {
		checkPlainly(t, d.anyNet(30+d.below(31), 100+d.below(301), 5), d.anyMachine(1+d.below(6)))
	}
}
