package net_test

import (
	"reflect"
	"slices"
	"strconv"
	"strings"
	"testing"

	"milestone/api"
	"milestone/net"
)

// small is a network of three vertices with an edge of each mode.
func small() api.Net {
	return api.Net{N: 3, Edges: []api.Edge{
		{From: 0, To: 1, Mode: 0, Cost: 5},
		{From: 1, To: 2, Mode: 1, Cost: 70},
		{From: 2, To: 0, Mode: 2, Cost: 0},
		{From: 2, To: 2, Mode: 3, Cost: 9},
		{From: 1, To: 0, Mode: 4, Cost: api.MaxCost},
	}}
}

const smallText = "net 3\nedge 0 1 w 5\nedge 1 2 b 70\nedge 2 0 c 0\nedge 2 2 f 9\nedge 1 0 t 2147483647\n"

// largest is a network with as many vertices and edges as there may be, and the longest lines.
func largest() api.Net {
	n := api.Net{N: api.MaxNodes}
	for i := range api.MaxEdges {
		n.Edges = append(n.Edges, api.Edge{From: 10 + i%50, To: 59 - i%50, Mode: i % api.Modes, Cost: api.MaxCost - i})
	}
	return n
}

func TestP101CheckOfVertices(t *testing.T) {
	for vertices, want := range map[int]bool{-1 << 63: false, -1: false, 0: false, 1: true, 2: true, 59: true, 60: true, 61: false, 1<<63 - 1: false} {
		if net.Check(api.Net{N: vertices}) != want {
			t.Errorf("N %d: not %v", vertices, want)
		}
	}
}

func TestP101CheckOfHowManyEdges(t *testing.T) {
	for count, want := range map[int]bool{0: true, 1: true, 399: true, 400: true, 401: false, 100000: false} {
		if net.Check(api.Net{N: 1, Edges: make([]api.Edge, count)}) != want {
			t.Errorf("%d edges: not %v", count, want)
		}
	}
}

func TestP101CheckOfEdges(t *testing.T) {
	for _, x := range []struct {
		e    api.Edge
		want bool
	}{
		{api.Edge{}, true},
		{api.Edge{From: 6}, true}, {api.Edge{From: 7}, false}, {api.Edge{From: -1}, false},
		{api.Edge{To: 6}, true}, {api.Edge{To: 7}, false}, {api.Edge{To: -1}, false},
		{api.Edge{From: 59}, false}, {api.Edge{To: 59}, false},
		{api.Edge{Mode: 4}, true}, {api.Edge{Mode: 5}, false}, {api.Edge{Mode: -1}, false},
		{api.Edge{Cost: 1<<31 - 1}, true}, {api.Edge{Cost: 1 << 31}, false}, {api.Edge{Cost: 1 << 32}, false}, {api.Edge{Cost: -1}, false},
		{api.Edge{Cost: -1 << 63}, false}, {api.Edge{From: -1 << 63}, false}, {api.Edge{To: 1<<63 - 1}, false},
	} {
		fine := api.Edge{From: 1, To: 2, Mode: 3, Cost: 4}
		for _, edges := range [][]api.Edge{{x.e}, {x.e, fine}, {fine, fine, x.e}} {
			if net.Check(api.Net{N: 7, Edges: edges}) != x.want {
				t.Errorf("%v: not %v", edges, x.want)
			}
		}
	}
	if !net.Check(largest()) {
		t.Error("the largest one is refused")
	}
}

func TestP101Text(t *testing.T) {
	for _, x := range []struct {
		n    api.Net
		want string
	}{
		{api.Net{N: 1}, "net 1\n"},
		{api.Net{N: 60, Edges: []api.Edge{}}, "net 60\n"},
		{small(), smallText},
		{api.Net{N: 60, Edges: []api.Edge{{From: 59, To: 10, Mode: 3, Cost: 100}, {From: 59, To: 10, Mode: 3, Cost: 100}}}, "net 60\nedge 59 10 f 100\nedge 59 10 f 100\n"},
	} {
		if got := net.Text(x.n); got != x.want {
			t.Errorf("%q, not %q", got, x.want)
		}
	}
}

// What Text is handed may be no network: it must end, and no more.
func TestP101TextOfWhatIsNoNetwork(t *testing.T) {
	for _, e := range []api.Edge{{Mode: 5}, {Mode: -1}, {Mode: 1<<63 - 1}, {Mode: -1 << 63}, {From: -1}, {To: 9}, {Cost: -1}, {Cost: 1 << 31}} {
		net.Text(api.Net{N: 2, Edges: []api.Edge{e}})
	}
	net.Text(api.Net{})
	net.Text(api.Net{N: -5, Edges: make([]api.Edge, 1000)})
}

func checkRead(t *testing.T, s string, want api.Net) {
	t.Helper()
	n, line, e := net.Parse(s)
	if e != api.OK || line != 0 || n.N != want.N || !slices.Equal(n.Edges, want.Edges) {
		t.Errorf("%.60q: %v at %d, %v", s, e, line, n)
	}
}

func checkRefused(t *testing.T, s string, want int) {
	t.Helper()
	n, line, e := net.Parse(s)
	if e != api.BadNetwork || line != want || n.N != 0 || n.Edges != nil {
		t.Errorf("%.60q: %v at %d, not at %d; %v", s, e, line, want, n)
	}
}

func TestP102ParseReads(t *testing.T) {
	edge := api.Edge{From: 1, To: 0, Mode: 1, Cost: 10}
	one := api.Net{N: 2, Edges: []api.Edge{edge}}
	for s, want := range map[string]api.Net{
		"net 1":                                 {N: 1},
		"net 1\n":                               {N: 1},
		"net 60\n":                              {N: 60},
		"\n\n\nnet 7":                           {N: 7},
		"net 2\nedge 1 0 b 10":                  one,
		"net 2\nedge 1 0 b 10\n":                one,
		"\nnet 2\n\n\nedge 1 0 b 10\n\n":        one,
		"net 2\nedge 1 0 b 10\nedge 1 0 b 10\n": {N: 2, Edges: []api.Edge{edge, edge}},
		smallText:                               small(),
	} {
		checkRead(t, s, want)
	}
}

func TestP102ParseRefusesTheFirstLine(t *testing.T) {
	for _, s := range []string{
		"net", "net ", "net  1", " net 1", "net 1 ", "net\t1", "net 1\t", "net 1\r", "net1", "net 1 1", "net 1 edge 0 0 w 1",
		"Net 1", "NET 1", "ne 1", "nets 1", "1 net", "1", " ", "\x00", "\xff", "net \xff", "\ufeffnet 1",
		"net 0", "net 61", "net 100", "net 01", "net 00", "net 001", "net -1", "net -0", "net +1", "net 1.0", "net 1_0", "net 0x1", "net 1e1", "net x", "net \u0661",
		"net 18446744073709551617", "net 99999999999999999999999999999999",
		"edge 0 0 w 1", "edge 0 0 w 1\nnet 1",
	} {
		checkRefused(t, s, 1)
		checkRefused(t, "\n"+s, 2)
		checkRefused(t, "\n\n\n"+s+"\nnet 1\n", 4)
	}
}

func TestP102ParseRefusesAnEdge(t *testing.T) {
	for _, line := range []string{
		"edge", "edge ", "edge 0", "edge 0 1", "edge 0 1 w", "edge 0 1 w ", "edge 0 1 w 1 ", "edge 0 1 w 1 1", "edge 0 1 1", "edge 0 w 1",
		" edge 0 1 w 1", "edge  0 1 w 1", "edge 0  1 w 1", "edge 0 1  w 1", "edge 0 1 w  1", "edge\t0 1 w 1", "edge 0 1 w 1\r", "edge 0 1 w1",
		"Edge 0 1 w 1", "edges 0 1 w 1", "arc 0 1 w 1", "net 2", "net 1", " ", "x",
		"edge 2 1 w 1", "edge 0 2 w 1", "edge -1 1 w 1", "edge 0 -1 w 1", "edge +0 1 w 1", "edge 0 +1 w 1", "edge -0 1 w 1", "edge x 1 w 1", "edge 0 x w 1", "edge  1 w 1",
		"edge 00 1 w 1", "edge 01 1 w 1", "edge 0 01 w 1", "edge 0 00 w 1", "edge 18446744073709551616 1 w 1", "edge 0 18446744073709551616 w 1",
		"edge 0 1 x 1", "edge 0 1 W 1", "edge 0 1 0 1", "edge 0 1 wb 1", "edge 0 1 ww 1", "edge 0 1 wbcft 1", "edge 0 1  1", "edge 0 1 . 1", "edge 0 1 \xff 1", "edge 0 1 \u0175 1",
		"edge 0 1 w -1", "edge 0 1 w -0", "edge 0 1 w +1", "edge 0 1 w 01", "edge 0 1 w 00", "edge 0 1 w 1.", "edge 0 1 w x", "edge 0 1 w 0x1", "edge 0 1 w 1_0",
		"edge 0 1 w 2147483648", "edge 0 1 w 4294967296", "edge 0 1 w 9223372036854775808", "edge 0 1 w 18446744073709551616", "edge 0 1 w 02147483647",
	} {
		checkRefused(t, "net 2\n"+line, 2)
		checkRefused(t, "net 2\n"+line+"\nedge 0 1 w 1\n", 2)
		checkRefused(t, "net 2\nedge 0 1 w 1\n"+line+"\n", 3)
		checkRefused(t, "\nnet 2\n\nedge 0 1 w 1\n\n\n"+line+"\nfoo\n", 7)
	}
}

func TestP102ParseOfNothing(t *testing.T) {
	for _, s := range []string{"", "\n", "\n\n", strings.Repeat("\n", 59999), strings.Repeat("\n", 60000)} {
		checkRefused(t, s, 1)
	}
}

func TestP102ParseAtTheBounds(t *testing.T) {
	last := "net 60\nedge 59 59 t "
	checkRead(t, last+"2147483647", api.Net{N: 60, Edges: []api.Edge{{From: 59, To: 59, Mode: 4, Cost: 1<<31 - 1}}})
	checkRead(t, last+"0", api.Net{N: 60, Edges: []api.Edge{{From: 59, To: 59, Mode: 4}}})
	checkRefused(t, last+"2147483648", 2)
	checkRefused(t, "net 60\nedge 60 59 t 1", 2)
	checkRefused(t, "net 60\nedge 59 60 t 1", 2)
	full := largest()
	text := net.Text(full)
	checkRead(t, text, full)
	checkRefused(t, text+"edge 0 0 w 0\n", 402)
	checkRefused(t, text+"edge 0 0 w 0\nedge 0 0 w 0\nfoo", 402)
	checkRefused(t, text+"\n\nedge 0 0 w 0", 404)
	checkRefused(t, text+"foo", 402)
	checkRefused(t, strings.Replace(text, "edge 10 59 w ", "edge 10 60 w ", 1)+"edge 0 0 w 0\n", 2)
}

func TestP102ParseOfLongTexts(t *testing.T) {
	blank := func(bytes int) string { return strings.Repeat("\n", bytes-len(smallText)) + smallText }
	checkRead(t, blank(59999), small())
	checkRead(t, blank(60000), small())
	checkRefused(t, blank(60001), 0)
	checkRefused(t, strings.Repeat("\n", 60001), 0)
	checkRefused(t, strings.Repeat("x", 60000), 1)
	checkRefused(t, strings.Repeat("x", 60001), 0)
	checkRefused(t, "net 0\n"+strings.Repeat("\n", 60000), 0)
	checkRefused(t, strings.Repeat("\n", 59999)+"x", 60000)
	checkRefused(t, strings.Repeat(" ", 60000), 1)
	checkRefused(t, "net "+strings.Repeat("0", 59995)+"1", 1)
	checkRefused(t, "net "+strings.Repeat("9", 59996), 1)
}

// dice throws numbers, the same ones in each run.
type dice uint64

func (d *dice) below(bound int) int {
	*d = *d*6364136223846793005 + 1442695040888963407
	return int(*d>>33) % bound
}

func thrown(d *dice) api.Net {
	n := api.Net{N: 1 + d.below(api.MaxNodes)}
	for range d.below(api.MaxEdges + 1) {
		cost := d.below(api.MaxCost) >> d.below(31)
		n.Edges = append(n.Edges, api.Edge{From: d.below(n.N), To: d.below(n.N), Mode: d.below(api.Modes), Cost: cost})
	}
	return n
}

func TestP102ThereAndBack(t *testing.T) {
	d := dice(1)
	for range 200 {
		n := thrown(&d)
		checkRead(t, net.Text(n), n)
	}
}

// What Parse reads from a text that was changed is refused, or a network that Text writes just so, but for empty lines.
func TestP102ParseOfChangedTexts(t *testing.T) {
	d := dice(2)
	read := 0
	for range 20000 {
		b := []byte(smallText)
		for range 1 + d.below(2) {
			b[d.below(len(b))] = " \n0127edgntwx-"[d.below(14)]
		}
		n, line, e := net.Parse(string(b))
		if e != api.OK {
			if e != api.BadNetwork || line < 1 || line > strings.Count(string(b), "\n")+1 || n.N != 0 || n.Edges != nil {
				t.Fatalf("%q: %v at %d, %v", b, e, line, n)
			}
			continue
		}
		read++
		if line != 0 || !net.Check(n) || net.Text(n) != withoutEmptyLines(string(b)) {
			t.Fatalf("%q: at %d, %v", b, line, n)
		}
	}
	if read == 0 {
		t.Error("no changed text was read")
	}
}

func withoutEmptyLines(s string) string {
	var b strings.Builder
	for line := range strings.SplitSeq(s, "\n") {
		if line != "" {
			b.WriteString(line + "\n")
		}
	}
	return b.String()
}

func checkWalk(t *testing.T, n api.Net, from, to int, edges []int, wantCost int, wantWord []int) {
	t.Helper()
	cost, word, is := net.Walk(n, from, to, edges)
	if !is || cost != wantCost || !slices.Equal(word, wantWord) {
		t.Errorf("%d to %d by %v: %d, %v, %v", from, to, edges, cost, word, is)
	}
}

func TestP103Walk(t *testing.T) {
	n := small()
	for v := range 3 {
		checkWalk(t, n, v, v, nil, 0, nil)
		checkWalk(t, n, v, v, []int{}, 0, nil)
	}
	checkWalk(t, n, 0, 1, []int{0}, 5, []int{0})
	checkWalk(t, n, 0, 2, []int{0, 1}, 75, []int{0, 1})
	checkWalk(t, n, 0, 0, []int{0, 1, 2}, 75, []int{0, 1, 2})
	checkWalk(t, n, 2, 2, []int{3}, 9, []int{3})
	checkWalk(t, n, 2, 2, []int{3, 3, 3}, 27, []int{3, 3, 3})
	checkWalk(t, n, 1, 2, []int{1, 3, 2, 0, 1}, 154, []int{1, 3, 2, 0, 1})
	checkWalk(t, n, 1, 0, []int{4}, 1<<31-1, []int{4})
	checkWalk(t, n, 1, 0, []int{4, 0, 4}, 2*(1<<31-1)+5, []int{4, 0, 4})
}

func TestP103WalkOfManyEdges(t *testing.T) {
	n := api.Net{N: 1, Edges: []api.Edge{{Mode: 2, Cost: api.MaxCost}}}
	cost, word, is := net.Walk(n, 0, 0, make([]int, 100000))
	if !is || cost != 100000*api.MaxCost || len(word) != 100000 || slices.Min(word) != 2 || slices.Max(word) != 2 {
		t.Errorf("%d, %d modes, %v", cost, len(word), is)
	}
}

func TestP103WhatIsNoWalk(t *testing.T) {
	n := small()
	const least, greatest = -1 << 63, 1<<63 - 1
	for _, x := range []struct {
		from, to int
		edges    []int
	}{
		{0, 1, nil}, {2, 0, []int{}},
		{3, 3, nil}, {-1, -1, nil}, {60, 60, nil}, {least, least, nil}, {greatest, greatest, nil},
		{-1, 1, []int{0}}, {3, 1, []int{0}}, {0, -1, []int{0}}, {0, 3, []int{0}}, {0, 2, []int{0}}, {0, 0, []int{0}}, {1, 1, []int{0}}, {2, 1, []int{0}},
		{0, 2, []int{1, 0}}, {0, 2, []int{0, 0, 1}}, {0, 2, []int{0, 1, 2}}, {0, 1, []int{0, 1}}, {1, 0, []int{1}}, {1, 0, []int{0}}, {0, 2, []int{0, 2}}, {1, 2, []int{3}},
		{0, 1, []int{5}}, {0, 1, []int{-1}}, {0, 1, []int{least}}, {0, 1, []int{greatest}}, {0, 1, []int{0, 5}}, {0, 1, []int{0, -1}}, {1, 1, []int{-1}},
	} {
		cost, word, is := net.Walk(n, x.from, x.to, x.edges)
		if is || cost != 0 || len(word) > 0 {
			t.Errorf("%v: %d, %v, %v", x, cost, word, is)
		}
	}
	if _, _, is := net.Walk(api.Net{N: 1}, 0, 0, []int{0}); is {
		t.Error("a walk by an edge where there is none")
	}
}

// What Walk is handed may be no network: it must end, and no more.
func TestP103WalkOfWhatIsNoNetwork(t *testing.T) {
	net.Walk(api.Net{}, 0, 0, []int{0})
	net.Walk(api.Net{N: -1, Edges: []api.Edge{{From: -1, To: -1}}}, -1, -1, []int{0})
	net.Walk(api.Net{N: 2, Edges: []api.Edge{{From: 0, To: 99, Mode: -7, Cost: -1 << 63}, {From: 99, To: 1, Mode: 1 << 40, Cost: -1}}}, 0, 1, []int{0, 1})
}

// P2: spare room behind the lists is looked at, too.
func TestP2WhatIsHandedInStays(t *testing.T) {
	n := small()
	spare := append(slices.Grow(n.Edges, 3), api.Edge{From: 77}, api.Edge{To: 78})
	n.Edges = spare[:len(n.Edges)]
	edges := []int{0, 1, 2, 88, 89}
	before, walked := slices.Clone(spare), slices.Clone(edges)
	net.Check(n)
	net.Text(n)
	net.Walk(n, 0, 0, edges[:3])
	net.Walk(n, 0, 1, edges[:2])
	if !slices.Equal(spare, before) || !slices.Equal(edges, walked) {
		t.Errorf("changed: %v, %v", spare, edges)
	}
}

func TestP2AnswersAreNewMemory(t *testing.T) {
	first, _, _ := net.Parse(smallText)
	clear(first.Edges[:cap(first.Edges)])
	checkRead(t, smallText, small())
	edges := []int{0, 1, 2, 0, 1}
	_, word, _ := net.Walk(small(), 0, 2, edges)
	for i := range word[:cap(word)] {
		word[:cap(word)][i] = 99
	}
	if !slices.Equal(edges, []int{0, 1, 2, 0, 1}) {
		t.Errorf("the word is the edges' memory: %v", edges)
	}
	checkWalk(t, small(), 0, 2, edges, 150, []int{0, 1, 2, 0, 1})
}

func TestP3TheSameCallsAnswerTheSame(t *testing.T) {
	texts := []string{smallText, "", "net 61", net.Text(largest()), "net 2\n\nedge 0 2 w 1"}
	ask := func() (told []any) {
		for _, s := range texts {
			n, line, e := net.Parse(s)
			cost, word, is := net.Walk(n, 0, 0, []int{0, 1, 2})
			told = append(told, n, line, e, net.Check(n), net.Text(n), strconv.Itoa(cost), word, is)
		}
		return told
	}
	if first, again := ask(), ask(); !reflect.DeepEqual(first, again) {
		t.Errorf("%v, then %v", first, again)
	}
}
