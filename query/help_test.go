package query_test

import (
	"fmt"
	"slices"
	"strings"
	"testing"

	"milestone/api"
	"milestone/dfa"
	"milestone/hier"
	"milestone/mini"
	"milestone/net"
	"milestone/product"
	"milestone/query"
)

// network is one of so many vertices, its edges written as in a network's text.
func network(t *testing.T, vertices int, edges ...string) api.Net {
	t.Helper()
	text := fmt.Sprintf("net %d\n", vertices)
	for _, e := range edges {
		text += "edge " + e + "\n"
	}
	n, line, e := net.Parse(text)
	if e != api.OK {
		t.Fatalf("%s: line %d", text, line)
	}
	return n
}

// built is the hierarchy of a network.
func built(t *testing.T, vertices int, edges ...string) api.Index {
	t.Helper()
	return hier.Build(network(t, vertices, edges...))
}

func compiled(t *testing.T, text string) api.Dfa {
	t.Helper()
	d, e := mini.Compile(text)
	if e != api.OK {
		t.Fatalf("%s: %v", text, e)
	}
	return d
}

// steady is the machine of an expression, which is to be steady.
func steady(t *testing.T, text string) api.Dfa {
	t.Helper()
	d := compiled(t, text)
	if !mini.Steady(d) {
		t.Fatalf("%s is not steady", text)
	}
	return d
}

// counting is the machine of an expression, which is not to be steady.
func counting(t *testing.T, text string) api.Dfa {
	t.Helper()
	d := compiled(t, text)
	if mini.Steady(d) {
		t.Fatalf("%s is steady", text)
	}
	return d
}

// steadyTexts are expressions whose machines are steady: they take the word of none, or not, forbid a mode, ask for an order.
func steadyTexts() []string {
	return []string{
		".*", ".+", "_", "0", "w*", "w+", "[wb]*", "w*b*", "w+b+", "w+c+w+", "c+|w+", "w*b*c*f*t*", "(w+b+)*", "w+(b+w+)*", "[wb]*t*[wb]*", "w*(t+w*)*", "[wbc]+",
		".*t.*", "_|t+", "b*w+", "w*b+w*", "(c+f+)+w*",
	}
}

// countingTexts are expressions whose machines are not steady.
func countingTexts() []string {
	return []string{"w", "ww", "(ww)*", "w{2,3}", "[wb]*t?[wb]*", "(wb)*", ".{3,3}", ".{0,2}", "b?w+", "w+c*w+", "(w|bc)*", "[wbc]*f[wbc]*f?", ".", "wb|t+", "(..)*", ".+w", "w*t{0,4}w*"}
}

// sized is a machine of so many states, all of whose modes lead to 0.
func sized(states int) api.Dfa {
	return api.Dfa{Next: make([][api.Modes]int, states), Accept: make([]bool, states)}
}

// everyWalk is the least cost of all rows of no more edges than most that are a walk whose word is taken; -1: none is.
func everyWalk(n api.Net, d api.Dfa, from, to, most int) int {
	least := -1
	rows := [][]int{nil}
	for i := 0; i < len(rows); i++ {
		if cost, word, is := net.Walk(n, from, to, rows[i]); is && dfa.Run(d, word) && (least < 0 || cost < least) {
			least = cost
		}
		if len(rows[i]) < most {
			for e := range n.Edges {
				rows = append(rows, append(slices.Clone(rows[i]), e))
			}
		}
	}
	return least
}

// byArcs are the least costs of ways by arcs, as the chapter tells them: a plain count over all pairs of vertex and state, by Up until nothing costs less, then by Down until nothing does; -1: none.
func byArcs(x api.Index, d api.Dfa, from int) []int {
	many := len(d.Next)
	cost := slices.Repeat([]int{-1}, x.Net.N*many)
	cost[from*many] = 0
	for _, lists := range [][][]int{x.Up, x.Down} {
		for less := true; less; {
			less = false
			for _, i := range slices.Concat(lists...) {
				a := x.Arcs[i]
				for state, row := range d.Next {
					was, to := cost[a.From*many+state], a.To*many+row[a.Mode]
					if was >= 0 && (cost[to] < 0 || was+a.Cost < cost[to]) {
						cost[to], less = was+a.Cost, true
					}
				}
			}
		}
	}
	costs := slices.Repeat([]int{-1}, x.Net.N)
	for v := range costs {
		for state, c := range cost[v*many : (v+1)*many] {
			if d.Accept[state] && c >= 0 && (costs[v] < 0 || c < costs[v]) {
				costs[v] = c
			}
		}
	}
	return costs
}

// isNone tells whether this is what is told where there is no route.
func isNone(r api.Route, is bool) bool {
	return !is && r.Cost == 0 && len(r.Edges) == 0
}

// isRight tells whether a route is a walk from the one vertex to the other, its word taken, its cost right.
func isRight(n api.Net, d api.Dfa, from, to int, r api.Route) bool {
	cost, word, is := net.Walk(n, from, to, r.Edges)
	return is && cost == r.Cost && dfa.Run(d, word)
}

// checkRoute holds Route, and Many to that one vertex, against the cost that is wanted, -1 if there is none; what Route tells is right.
func checkRoute(t *testing.T, x api.Index, d api.Dfa, from, to, want int) {
	t.Helper()
	r, is := query.Route(x, d, from, to)
	if want < 0 {
		if !isNone(r, is) {
			t.Errorf("%d to %d: %v, %v, not none, in %s", from, to, r, is, show(x, d))
		}
	} else if !is || r.Cost != want || !isRight(x.Net, d, from, to, r) {
		t.Errorf("%d to %d: %v of %d edges at cost %d, not %d, right: %v, in %s", from, to, is, len(r.Edges), r.Cost, want, isRight(x.Net, d, from, to, r), show(x, d))
	}
	if got := query.Many(x, d, from, []int{to}); !slices.Equal(got, []int{want}) {
		t.Errorf("%d to %d: Many %v, not %d, in %s", from, to, got, want, show(x, d))
	}
}

// checkFrom holds Many to all vertices against the costs to each, and Route to each.
func checkFrom(t *testing.T, x api.Index, d api.Dfa, from int, want ...int) {
	t.Helper()
	all := make([]int, x.Net.N)
	for v := range all {
		all[v] = v
	}
	if got := query.Many(x, d, from, all); !slices.Equal(got, want) {
		t.Errorf("Many from %d: %v, not %v, in %s", from, got, want, show(x, d))
	}
	for to, cost := range want {
		checkRoute(t, x, d, from, to, cost)
	}
}

// checkSame holds what was built against package product, from each vertex to each.
func checkSame(t *testing.T, n api.Net, d api.Dfa) {
	t.Helper()
	x := hier.Build(n)
	for from := range n.N {
		costs := product.Costs(n, d, from)
		checkFrom(t, x, d, from, costs...)
		for to, cost := range costs {
			r, is := product.Route(n, d, from, to)
			if is != (cost >= 0) || is && r.Cost != cost {
				t.Fatalf("product: %v, %v, but %d", r, is, cost)
			}
		}
	}
}

// checkEdges holds the edges of a route against those that are wanted: the only ones of that cost.
func checkEdges(t *testing.T, x api.Index, d api.Dfa, from, to int, want ...int) {
	t.Helper()
	if r, is := query.Route(x, d, from, to); !is || !slices.Equal(r.Edges, want) {
		t.Errorf("%d to %d: %v, %v, not %v, in %s", from, to, r, is, want, show(x, d))
	}
}

func checkMany(t *testing.T, x api.Index, d api.Dfa, from int, to, want []int) {
	t.Helper()
	if got := query.Many(x, d, from, to); !slices.Equal(got, want) {
		t.Errorf("Many from %d to %v: %v, not %v, in %s", from, to, got, want, show(x, d))
	}
}

// show writes an index and a machine, if they are short.
func show(x api.Index, d api.Dfa) string {
	if len(x.Net.Edges) > 30 || len(x.Arcs) > 60 || len(d.Next) > 15 {
		return "a large one"
	}
	var b strings.Builder
	fmt.Fprintf(&b, "%sRank %v Arcs %v Up %v Down %v; ", strings.ReplaceAll(net.Text(x.Net), "\n", "; "), x.Rank, x.Arcs, x.Up, x.Down)
	for state, row := range d.Next {
		fmt.Fprintf(&b, "%v %v ", row, d.Accept[state])
	}
	return b.String()
}
