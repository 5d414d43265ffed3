package hier_test

import (
	"fmt"
	"slices"
	"strings"
	"testing"

	"milestone/api"
	"milestone/hier"
	"milestone/net"
	"milestone/order"
)

// network is one of so many vertices, its edges written as in a network's text.
func network(t *testing.T, vertices int, edges ...string) api.Net {
	t.Helper()
	text := fmt.Sprintf("net %d\n", vertices)
	for _, e := range edges {
		text += "edge " + e + "\n"
	}
	n, line, e := net.Parse(text)
	if e != api.OK {
		t.Fatalf("%s: line %d", text, line)
	}
	return n
}

// show writes arcs: ends, mode and cost, then the edge, or the two arcs.
func show(arcs []api.Arc) string {
	var rows []string
	for _, a := range arcs {
		row := fmt.Sprintf("%d %d %c %d", a.From, a.To, "wbcft"[a.Mode], a.Cost)
		if a.Edge >= 0 && a.A == 0 && a.B == 0 {
			row += fmt.Sprintf(" #%d", a.Edge)
		} else if a.Edge == -1 {
			row += fmt.Sprintf(" %d+%d", a.A, a.B)
		} else {
			row += " wrong"
		}
		rows = append(rows, row)
	}
	return strings.Join(rows, ", ")
}

// check holds what is built of n against what is wanted.
func check(t *testing.T, n api.Net, rank, arcs, up, down string) {
	t.Helper()
	x := hier.Build(n)
	for _, y := range [][2]string{
		{fmt.Sprint(x.Rank), rank}, {show(x.Arcs), arcs}, {fmt.Sprint(x.Up), up}, {fmt.Sprint(x.Down), down},
	} {
		if y[0] != y[1] {
			t.Errorf("%v:\n%s, not\n%s", n, y[0], y[1])
		}
	}
	checkPlainly(t, n)
}

// checkPlainly holds what is built of n against a plain building.
func checkPlainly(t *testing.T, n api.Net) {
	t.Helper()
	checkSame(t, hier.Build(n), plainly(n))
}

func checkSame(t *testing.T, got, want api.Index) {
	t.Helper()
	if got.Net.N != want.Net.N || !slices.Equal(got.Net.Edges, want.Net.Edges) {
		t.Errorf("Net %v, not %v", got.Net, want.Net)
	}
	if !slices.Equal(got.Rank, want.Rank) {
		t.Errorf("Rank %v, not %v, of %v", got.Rank, want.Rank, want.Net)
	}
	if !slices.Equal(got.Arcs, want.Arcs) {
		t.Errorf("Arcs %s, not %s, of %v", show(got.Arcs), show(want.Arcs), want.Net)
	}
	if !slices.EqualFunc(got.Up, want.Up, slices.Equal) || !slices.EqualFunc(got.Down, want.Down, slices.Equal) {
		t.Errorf("Up %v, Down %v, not %v, %v, of %v", got.Up, got.Down, want.Up, want.Down, want.Net)
	}
}

type cell struct{ from, to, mode int }

// plain builds as the chapter says it, line by line; it looks through all current arcs each time.
type plain struct {
	api.Index
	current map[cell]int
	gone    []bool
}

func plainly(n api.Net) api.Index {
	p := &plain{current: make(map[cell]int), gone: make([]bool, n.N)}
	p.Net = n
	p.Rank = slices.Repeat([]int{-1}, n.N)
	p.Up, p.Down = make([][]int, n.N), make([][]int, n.N)
	p.first()
	for place, v := range order.Order(n) {
		p.Rank[v] = place
		p.goes(v)
	}
	for v := range n.N {
		if p.Rank[v] == -1 {
			p.Up[v] = p.found(func(c cell) bool { return c.from == v && p.Rank[c.to] == -1 })
		}
	}
	return p.Index
}

func (p *plain) put(a api.Arc) {
	p.current[cell{a.From, a.To, a.Mode}] = len(p.Arcs)
	p.Arcs = append(p.Arcs, a)
}

func (p *plain) first() {
	for from := range p.Net.N {
		for to := range p.Net.N {
			for mode := range api.Modes {
				best := -1
				for i, e := range p.Net.Edges {
					if e.From == from && e.To == to && e.Mode == mode && (best == -1 || e.Cost < p.Net.Edges[best].Cost) {
						best = i
					}
				}
				if best != -1 {
					p.put(api.Arc{From: from, To: to, Mode: mode, Cost: p.Net.Edges[best].Cost, Edge: best})
				}
			}
		}
	}
}

// found are the current arcs that fit, by From, To, Mode.
func (p *plain) found(fits func(cell) bool) []int {
	var cells []cell
	for c := range p.current {
		if fits(c) {
			cells = append(cells, c)
		}
	}
	slices.SortFunc(cells, func(a, b cell) int {
		return (a.from-b.from)*1000000 + (a.to-b.to)*1000 + a.mode - b.mode
	})
	var found []int
	for _, c := range cells {
		found = append(found, p.current[c])
	}
	return found
}

func (p *plain) goes(v int) {
	p.Up[v] = p.found(func(c cell) bool { return c.from == v && !p.gone[c.to] })
	p.Down[v] = p.found(func(c cell) bool { return c.to == v && c.from != v && !p.gone[c.from] })
	for _, i := range p.Down[v] {
		for _, j := range p.Up[v] {
			a, b := p.Arcs[i], p.Arcs[j]
			if b.To == v || a.Mode != b.Mode {
				continue
			}
			was, is := p.current[cell{a.From, b.To, a.Mode}]
			if !is || p.Arcs[was].Cost > a.Cost+b.Cost {
				p.put(api.Arc{From: a.From, To: b.To, Mode: a.Mode, Cost: a.Cost + b.Cost, Edge: -1, A: i, B: j})
			}
		}
	}
	p.gone[v] = true
}

func TestP1101OfOneVertex(t *testing.T) {
	check(t, network(t, 1), "[0]", "", "[[]]", "[[]]")
	check(t, api.Net{N: 1, Edges: []api.Edge{}}, "[0]", "", "[[]]", "[[]]")
	check(t, network(t, 1, "0 0 f 7"), "[0]", "0 0 f 7 #0", "[[0]]", "[[]]")
	check(t, network(t, 1, "0 0 f 7", "0 0 f 6", "0 0 f 6"), "[0]", "0 0 f 6 #1", "[[0]]", "[[]]")
	check(t, network(t, 1, "0 0 t 7", "0 0 w 6"), "[-1]", "0 0 w 6 #1, 0 0 t 7 #0", "[[0 1]]", "[[]]")
}

func TestP1101WithoutEdges(t *testing.T) {
	check(t, network(t, 3), "[0 1 2]", "", "[[] [] []]", "[[] [] []]")
	for _, vertices := range []int{2, 59, api.MaxNodes} {
		x := hier.Build(api.Net{N: vertices})
		if len(x.Rank) != vertices || len(x.Up) != vertices || len(x.Down) != vertices || len(x.Arcs) != 0 {
			t.Errorf("%d vertices: %v", vertices, x)
		}
		checkPlainly(t, api.Net{N: vertices})
	}
}

// By From, To, Mode, whichever way the edges come.
func TestP1101FirstArcsInTheirOrder(t *testing.T) {
	check(t, network(t, 3, "2 1 w 1", "2 0 t 2", "2 0 w 3", "1 2 b 4", "1 0 w 5", "0 1 t 6", "0 1 c 7", "0 0 w 8"),
		"[-1 -1 -1]", "0 0 w 8 #7, 0 1 c 7 #6, 0 1 t 6 #5, 1 0 w 5 #4, 1 2 b 4 #3, 2 0 w 3 #2, 2 0 t 2 #1, 2 1 w 1 #0",
		"[[0 1 2] [3 4] [5 6 7]]", "[[] [] []]")
	check(t, network(t, 2, "1 1 t 0", "1 1 f 0", "1 1 c 0", "1 1 b 0", "1 1 w 0"), "[0 -1]",
		"1 1 w 0 #4, 1 1 b 0 #3, 1 1 c 0 #2, 1 1 f 0 #1, 1 1 t 0 #0", "[[] [0 1 2 3 4]]", "[[] []]")
}

// Of edges side by side the least, of several the first; those of another mode, or back, are others.
func TestP1101FirstArcsOfEdgesSideBySide(t *testing.T) {
	check(t, network(t, 2, "0 1 w 9", "0 1 w 4", "0 1 w 7", "0 1 w 4", "0 1 w 5"), "[0 1]", "0 1 w 4 #1", "[[0] []]", "[[] []]")
	check(t, network(t, 2, "0 1 w 3", "0 1 w 4", "0 1 w 3"), "[0 1]", "0 1 w 3 #0", "[[0] []]", "[[] []]")
	check(t, network(t, 2, "0 1 w 3", "0 1 w 4", "0 1 w 2"), "[0 1]", "0 1 w 2 #2", "[[0] []]", "[[] []]")
	check(t, network(t, 2, "0 1 w 2147483647", "0 1 w 2147483647", "0 1 b 2147483647", "0 1 b 2147483646", "1 0 w 0"), "[-1 -1]",
		"0 1 w 2147483647 #0, 0 1 b 2147483646 #3, 1 0 w 0 #4", "[[0 1] [2]]", "[[] []]")
	check(t, network(t, 2, "1 0 w 6", "0 1 w 8", "1 0 w 5", "0 1 w 7"), "[0 1]", "0 1 w 7 #3, 1 0 w 5 #2, 1 1 w 12 1+0", "[[0] [2]]", "[[1] []]")
}

func TestP1101RankIsThePlaceInTheOrder(t *testing.T) {
	check(t, network(t, 5, "0 4 w 1", "4 0 w 1", "1 3 w 1", "2 2 w 5", "2 2 b 5"), "[2 0 -1 1 3]",
		"0 4 w 1 #0, 1 3 w 1 #2, 2 2 w 5 #3, 2 2 b 5 #4, 4 0 w 1 #1, 4 4 w 2 4+0", "[[0] [1] [2 3] [] [5]]", "[[4] [] [] [] []]")
	d := dice(11011)
	for range 300 {
		vertices := 1 + d.below(api.MaxNodes)
		n := d.anyNet(vertices, d.below(2*vertices))
		want := slices.Repeat([]int{-1}, n.N)
		for place, v := range order.Order(n) {
			want[v] = place
		}
		if x := hier.Build(n); !slices.Equal(x.Rank, want) {
			t.Errorf("%v: %v, not %v", n, x.Rank, want)
		}
	}
}

// 0 and 2 stay, as each has a loop of another mode; 1 goes.
func TestP1101Shortcuts(t *testing.T) {
	way := []string{"0 0 t 9", "2 2 t 9", "0 1 w 2", "1 2 w 3"}
	const arcs = "0 0 t 9 #0, 0 1 w 2 #2, "
	check(t, network(t, 3, way...), "[-1 0 -1]", arcs+"1 2 w 3 #3, 2 2 t 9 #1, 0 2 w 5 1+2", "[[0 4] [2] [3]]", "[[] [1] []]")
	for _, cost := range []string{"0", "4", "5"} { // no greater than the two together
		check(t, network(t, 3, append(way, "0 2 w "+cost)...), "[-1 0 -1]", arcs+"0 2 w "+cost+" #4, 1 2 w 3 #3, 2 2 t 9 #1", "[[0 2] [3] [4]]", "[[] [1] []]")
	}
	for _, cost := range []string{"6", "70", "2147483647"} {
		check(t, network(t, 3, append(way, "0 2 w "+cost)...), "[-1 0 -1]", arcs+"0 2 w "+cost+" #4, 1 2 w 3 #3, 2 2 t 9 #1, 0 2 w 5 1+3", "[[0 5] [3] [4]]", "[[] [1] []]")
	}
	// What leads there by another mode, or back, is no such arc.
	check(t, network(t, 3, append(way, "0 2 b 0")...), "[-1 0 -1]", arcs+"0 2 b 0 #4, 1 2 w 3 #3, 2 2 t 9 #1, 0 2 w 5 1+3", "[[0 5 2] [3] [4]]", "[[] [1] []]")
	check(t, network(t, 3, append(way, "2 0 w 0")...), "[-1 0 -1]", arcs+"1 2 w 3 #3, 2 0 w 0 #4, 2 2 t 9 #1, 0 2 w 5 1+2", "[[0 5] [2] [3 4]]", "[[] [1] []]")
	// Edges side by side: the least of each.
	check(t, network(t, 3, append(way, "0 1 w 1", "1 2 w 9", "0 1 w 8")...), "[-1 0 -1]", "0 0 t 9 #0, 0 1 w 1 #4, 1 2 w 3 #3, 2 2 t 9 #1, 0 2 w 4 1+2", "[[0 4] [2] [3]]", "[[] [1] []]")
}

func TestP1101ShortcutsOfCostNone(t *testing.T) {
	check(t, network(t, 3, "0 0 t 0", "2 2 t 0", "0 1 w 0", "1 2 w 0", "0 2 w 1"), "[-1 0 -1]",
		"0 0 t 0 #0, 0 1 w 0 #2, 0 2 w 1 #4, 1 2 w 0 #3, 2 2 t 0 #1, 0 2 w 0 1+3", "[[0 5] [3] [4]]", "[[] [1] []]")
	check(t, network(t, 3, "0 0 t 0", "2 2 t 0", "0 1 w 0", "1 2 w 0", "0 2 w 0"), "[-1 0 -1]",
		"0 0 t 0 #0, 0 1 w 0 #2, 0 2 w 0 #4, 1 2 w 0 #3, 2 2 t 0 #1", "[[0 2] [3] [4]]", "[[] [1] []]")
}

// A vertex of two modes stays, so nothing leads over it; and over one that goes nothing leads by two.
func TestP1101NoShortcutsOfTwoModes(t *testing.T) {
	check(t, network(t, 3, "0 1 w 2", "1 2 b 3"), "[0 -1 1]", "0 1 w 2 #0, 1 2 b 3 #1", "[[0] [] []]", "[[] [] [1]]")
	check(t, network(t, 3, "0 1 w 2", "1 2 w 3", "1 1 t 0"), "[0 -1 1]", "0 1 w 2 #0, 1 1 t 0 #2, 1 2 w 3 #1", "[[0] [1] []]", "[[] [] [2]]")
	d := dice(11012)
	for range 300 {
		x := hier.Build(d.anyNet(1+d.below(12), d.below(40)))
		for _, a := range x.Arcs {
			if a.Edge == -1 && (x.Arcs[a.A].Mode != a.Mode || x.Arcs[a.B].Mode != a.Mode || x.Rank[x.Arcs[a.A].To] == -1) {
				t.Errorf("%v: %v", x.Net, a)
			}
		}
	}
}

// Each of Down in order, and with it each of Up in order; then the next vertex.
func TestP1101ShortcutsInTheirOrder(t *testing.T) {
	check(t, network(t, 4, "3 2 c 1", "0 2 c 2", "2 3 c 4", "2 1 c 8", "2 0 c 16", "0 0 w 1", "1 1 w 1", "3 3 w 1"), "[-1 -1 0 -1]",
		"0 0 w 1 #5, 0 2 c 2 #1, 1 1 w 1 #6, 2 0 c 16 #4, 2 1 c 8 #3, 2 3 c 4 #2, 3 2 c 1 #0, 3 3 w 1 #7, "+
			"0 0 c 18 1+3, 0 1 c 10 1+4, 0 3 c 6 1+5, 3 0 c 17 6+3, 3 1 c 9 6+4, 3 3 c 5 6+5",
		"[[0 8 9 10] [2] [3 4 5] [11 12 7 13]]", "[[] [] [1 6] []]")
	// 1 and then 2 go, each between two that stay.
	check(t, network(t, 5, "4 2 w 1", "2 3 w 1", "3 1 w 1", "1 0 w 1", "0 0 f 0", "3 3 f 0", "4 4 f 0"), "[-1 0 1 -1 -1]",
		"0 0 f 0 #4, 1 0 w 1 #3, 2 3 w 1 #1, 3 1 w 1 #2, 3 3 f 0 #5, 4 2 w 1 #0, 4 4 f 0 #6, 3 0 w 2 3+1, 4 3 w 2 5+2",
		"[[0] [1] [2] [7 4] [8 6]]", "[[] [3] [5] [] []]")
}

// A loop of the vertex that goes is in its Up alone, and no part of a shortcut.
func TestP1101LoopsOfTheVertexThatGoes(t *testing.T) {
	check(t, network(t, 3, "0 1 w 2", "1 1 w 0", "1 2 w 3", "0 0 t 1", "2 2 t 1"), "[-1 0 -1]",
		"0 0 t 1 #3, 0 1 w 2 #0, 1 1 w 0 #1, 1 2 w 3 #2, 2 2 t 1 #4, 0 2 w 5 1+3", "[[0 5] [2 3] [4]]", "[[] [1] []]")
	check(t, network(t, 2, "0 0 w 2", "0 0 w 1", "1 1 w 3"), "[1 0]", "0 0 w 1 #1, 1 1 w 3 #2", "[[0] [1]]", "[[] []]")
}

// A way there and back is a loop where it begins: a new one, or a lesser one.
func TestP1101ThereAndBack(t *testing.T) {
	check(t, network(t, 2, "0 1 w 2", "1 0 w 3", "0 0 b 4"), "[-1 0]", "0 0 b 4 #2, 0 1 w 2 #0, 1 0 w 3 #1, 0 0 w 5 1+2", "[[3 0] [2]]", "[[] [1]]")
	check(t, network(t, 2, "0 1 w 2", "1 0 w 3", "0 0 b 4", "0 0 w 5"), "[-1 0]", "0 0 w 5 #3, 0 0 b 4 #2, 0 1 w 2 #0, 1 0 w 3 #1", "[[0 1] [3]]", "[[] [2]]")
	check(t, network(t, 2, "0 1 w 2", "1 0 w 3", "0 0 b 4", "0 0 w 6"), "[-1 0]", "0 0 w 6 #3, 0 0 b 4 #2, 0 1 w 2 #0, 1 0 w 3 #1, 0 0 w 5 2+3", "[[4 1] [3]]", "[[] [2]]")
	// Of one that goes later it is in its Up: 1 goes ahead of 0.
	check(t, network(t, 3, "0 1 w 2", "1 0 w 3", "0 2 w 1"), "[2 1 0]", "0 1 w 2 #0, 0 2 w 1 #2, 1 0 w 3 #1, 0 0 w 5 0+2", "[[3] [2] []]", "[[] [0] [1]]")
}

// Behind a shortcut, it is what the next vertex sees, and not the edge that costs more.
func TestP1101ShortcutsAreCurrent(t *testing.T) {
	n := network(t, 4, "0 1 w 1", "1 2 w 1", "0 2 w 9", "2 3 w 1", "0 0 f 0", "3 3 f 0")
	check(t, n, "[-1 0 1 -1]", "0 0 f 0 #4, 0 1 w 1 #0, 0 2 w 9 #2, 1 2 w 1 #1, 2 3 w 1 #3, 3 3 f 0 #5, 0 2 w 2 1+3, 0 3 w 3 6+4",
		"[[0 7] [3] [4] [5]]", "[[] [1] [6] []]")
	// Where the edge costs no more it stays the current one.
	n.Edges[2].Cost = 2
	check(t, n, "[-1 0 1 -1]", "0 0 f 0 #4, 0 1 w 1 #0, 0 2 w 2 #2, 1 2 w 1 #1, 2 3 w 1 #3, 3 3 f 0 #5, 0 3 w 3 2+4",
		"[[0 6] [3] [4] [5]]", "[[] [1] [2] []]")
	// Three ways over 1, 2 and 3, each lesser than the one ahead of it; the last one is current.
	check(t, network(t, 5, "0 1 w 5", "1 4 w 5", "0 2 w 4", "2 4 w 4", "0 3 w 3", "3 4 w 3", "0 4 w 11", "0 0 f 0", "4 4 f 0"), "[-1 0 1 2 -1]",
		"0 0 f 0 #7, 0 1 w 5 #0, 0 2 w 4 #2, 0 3 w 3 #4, 0 4 w 11 #6, 1 4 w 5 #1, 2 4 w 4 #3, 3 4 w 3 #5, 4 4 f 0 #8, 0 4 w 10 1+5, 0 4 w 8 2+6, 0 4 w 6 3+7",
		"[[0 11] [5] [6] [7] [8]]", "[[] [1] [2] [3] []]")
	// The first of three that cost the same stays current.
	check(t, network(t, 5, "0 1 w 5", "1 4 w 5", "0 2 w 4", "2 4 w 6", "0 3 w 3", "3 4 w 7", "0 0 f 0", "4 4 f 0"), "[-1 0 1 2 -1]",
		"0 0 f 0 #6, 0 1 w 5 #0, 0 2 w 4 #2, 0 3 w 3 #4, 1 4 w 5 #1, 2 4 w 6 #3, 3 4 w 7 #5, 4 4 f 0 #7, 0 4 w 10 1+4",
		"[[0 8] [4] [5] [6] [7]]", "[[] [1] [2] [3] []]")
}

// To and from those that have not gone alone: 0 goes, then 1, then 3, then 2.
func TestP1101UpAndDown(t *testing.T) {
	check(t, network(t, 4, "2 0 w 1", "3 1 w 2", "1 2 w 4", "2 3 w 8", "3 2 w 16", "3 3 w 32", "2 2 w 3"), "[0 1 3 2]",
		"1 2 w 4 #2, 2 0 w 1 #0, 2 2 w 3 #6, 2 3 w 8 #3, 3 1 w 2 #1, 3 2 w 16 #4, 3 3 w 32 #5, 3 2 w 6 4+0",
		"[[] [0] [2] [7 6]]", "[[1] [4] [] [3]]")
	// Among those that stay by To, then by Mode, whatever the arcs' numbers are.
	check(t, network(t, 4, "1 1 t 7", "1 3 t 1", "1 3 w 5", "1 0 c 2", "1 0 b 3", "0 0 f 0", "3 2 w 1", "2 1 w 1", "3 3 f 0"), "[-1 -1 0 -1]",
		"0 0 f 0 #5, 1 0 b 3 #4, 1 0 c 2 #3, 1 1 t 7 #0, 1 3 w 5 #2, 1 3 t 1 #1, 2 1 w 1 #7, 3 2 w 1 #6, 3 3 f 0 #8, 3 1 w 2 7+6",
		"[[0] [1 2 3 4 5] [6] [9 8]]", "[[] [] [7] []]")
}

// In its order a vertex has arcs of one mode, so that Down, by From, and Up, by To, have one arc each.
func TestP1101OneArcOfEachVertexThatIsSeen(t *testing.T) {
	d := dice(11013)
	for range 300 {
		x := hier.Build(d.anyNet(1+d.below(15), d.below(60)))
		for v, rank := range x.Rank {
			for k := 1; k < len(x.Down[v]); k++ {
				if x.Arcs[x.Down[v][k-1]].From >= x.Arcs[x.Down[v][k]].From {
					t.Errorf("%v: Down of %d: %v", x.Net, v, x.Down[v])
				}
			}
			for k := 1; k < len(x.Up[v]); k++ {
				a, b := x.Arcs[x.Up[v][k-1]], x.Arcs[x.Up[v][k]]
				if a.To > b.To || a.To == b.To && (rank >= 0 || a.Mode >= b.Mode) {
					t.Errorf("%v: Up of %d: %v", x.Net, v, x.Up[v])
				}
			}
		}
	}
}

func TestP1101AllStay(t *testing.T) {
	check(t, network(t, 2, "0 1 w 1", "1 0 b 2", "0 1 w 0"), "[-1 -1]", "0 1 w 0 #2, 1 0 b 2 #1", "[[0] [1]]", "[[] []]")
	for _, vertices := range []int{3, 20, api.MaxNodes} {
		n := api.Net{N: vertices}
		for v := range vertices {
			n.Edges = append(n.Edges, api.Edge{From: v, To: (v + 1) % vertices, Mode: 3, Cost: v}, api.Edge{From: v, To: v, Mode: 1, Cost: 2 * v})
		}
		x := hier.Build(n)
		for v := range vertices {
			if len(x.Up[v]) != 2 || len(x.Down[v]) != 0 || x.Rank[v] != -1 {
				t.Errorf("%d of %d: %v", v, vertices, x)
			}
		}
		if len(x.Arcs) != 2*vertices {
			t.Errorf("%d arcs", len(x.Arcs))
		}
		checkPlainly(t, n)
	}
}

func TestP1101NoneStays(t *testing.T) {
	check(t, network(t, 3, "0 1 w 1", "1 2 w 2", "2 0 w 4"), "[0 1 2]",
		"0 1 w 1 #0, 1 2 w 2 #1, 2 0 w 4 #2, 2 1 w 5 2+0, 2 2 w 7 3+1", "[[0] [1] [4]]", "[[2] [3] []]")
	for mode := range api.Modes {
		n := api.Net{N: api.MaxNodes}
		for v := range api.MaxNodes {
			n.Edges = append(n.Edges, api.Edge{From: v, To: (v + 7) % api.MaxNodes, Mode: mode, Cost: 100 - v}, api.Edge{From: v, To: v / 2, Mode: mode, Cost: v})
		}
		for v, rank := range hier.Build(n).Rank {
			if rank < 0 {
				t.Errorf("%d stays", v)
			}
		}
		checkPlainly(t, n)
	}
}

// full has an edge from each of so many vertices to each, all of one mode.
func full(vertices int) api.Net {
	n := api.Net{N: vertices}
	for from := range vertices {
		for to := range vertices {
			n.Edges = append(n.Edges, api.Edge{From: from, To: to, Mode: 2, Cost: 1000 - 37*from*to%991})
		}
	}
	return n
}

func TestP1101OfTheLargest(t *testing.T) {
	checkPlainly(t, full(20))
	star := api.Net{N: api.MaxNodes}
	for v := 1; v < api.MaxNodes; v++ { // all lead to 0 and from it
		star.Edges = append(star.Edges, api.Edge{From: v, To: 0, Mode: 4, Cost: api.MaxCost}, api.Edge{From: 0, To: v, Mode: 4, Cost: api.MaxCost - v})
	}
	checkPlainly(t, star)
	for v := 1; v < api.MaxNodes; v++ { // and stay, so that shortcuts lead from each to each
		star.Edges = append(star.Edges, api.Edge{From: v, To: v, Mode: 3})
	}
	star.Edges = append(star.Edges, slices.Repeat([]api.Edge{{From: 0, To: 0, Mode: 4}}, api.MaxEdges-len(star.Edges))...)
	checkPlainly(t, star)
	if x := hier.Build(star); len(x.Arcs) != 3*59+1+59*59 || len(x.Up[1]) != 60 || x.Rank[0] != 0 {
		t.Errorf("%d arcs, Up %v", len(x.Arcs), x.Up[1])
	}
	d := dice(11014)
	for range 100 {
		checkPlainly(t, d.anyNet(api.MaxNodes, api.MaxEdges))
	}
}

// One mode, many vertices: each shortcut is made of others, and the most that there may be are built.
func TestP1101OfOneModeAndTheLargest(t *testing.T) {
	d := dice(11015)
	for range 30 {
		n := d.anyNet(api.MaxNodes, api.MaxEdges)
		for i := range n.Edges {
			n.Edges[i].Mode = 1
		}
		checkPlainly(t, n)
	}
	row := api.Net{N: api.MaxNodes}
	for v := 1; v < api.MaxNodes; v++ {
		row.Edges = append(row.Edges, api.Edge{From: v - 1, To: v, Cost: api.MaxCost}, api.Edge{From: v, To: v - 1, Cost: api.MaxCost})
	}
	checkPlainly(t, row)
}

func TestP1101OfNetworksByDice(t *testing.T) {
	d := dice(11016)
	shortcuts := 0
	for range 3000 {
		vertices := 1 + d.below(12)
		n := d.anyNet(vertices, d.below(4*vertices))
		checkPlainly(t, n)
		for _, a := range hier.Build(n).Arcs {
			if a.Edge == -1 {
				shortcuts++
			}
		}
	}
	if shortcuts < 3000 {
		t.Errorf("%d shortcuts", shortcuts)
	}
}
