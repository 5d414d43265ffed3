package adj_test

import (
	"math"
	"reflect"
	"slices"
	"testing"

	"milestone/adj"
	"milestone/api"
)

// The sets of one mode each.
const (
	walk    = 1
	bike    = 2
	car     = 4
	ferry   = 8
	transit = 16
	every   = walk | bike | car | ferry | transit
)

// town is a network with edges side by side, edges of a vertex to itself, vertices to which none leads, from which none leads, and one alone.
func town() api.Net {
	return api.Net{N: 6, Edges: []api.Edge{
		{From: 2, To: 3, Mode: 2, Cost: 1},
		{From: 0, To: 2, Mode: 0, Cost: 9},
		{From: 0, To: 1, Mode: 1, Cost: 2},
		{From: 1, To: 0, Mode: 1, Cost: 2},
		{From: 0, To: 2, Mode: 3, Cost: 0},
		{From: 2, To: 2, Mode: 4, Cost: 5},
		{From: 0, To: 2, Mode: 0, Cost: 9},
		{From: 5, To: 0, Mode: 3, Cost: api.MaxCost},
	}}
}

// noVertex are numbers that are none of a network with so many vertices.
func noVertex(vertices int) []int {
	return []int{-1, -2, -vertices, vertices, vertices + 1, vertices + 64, 256, 1 << 32, -1 << 32, math.MaxInt, math.MinInt}
}

func checkRow(t *testing.T, what string, v int, got, want []int) {
	t.Helper()
	if !slices.Equal(got, want) {
		t.Errorf("%s %d: %v, not %v", what, v, got, want)
	}
}

func checkTown(t *testing.T, a *adj.Adj) {
	t.Helper()
	for v, want := range [][]int{{1, 2, 4, 6}, {3}, {0, 5}, nil, nil, {7}} {
		checkRow(t, "Out", v, a.Out(v), want)
	}
	for v, want := range [][]int{{3, 7}, {2}, {1, 4, 5, 6}, {0}, nil, nil} {
		checkRow(t, "In", v, a.In(v), want)
	}
	for v, want := range []int{walk | bike | ferry, bike, walk | car | ferry | transit, car, 0, ferry} {
		if got := a.Modes(v); got != want {
			t.Errorf("Modes %d: %d, not %d", v, got, want)
		}
	}
	for v, want := range [][]int{{0, 1, 2, 3}, {0, 1, 2, 3}, {2, 3}, {3}, {4}, {0, 1, 2, 3, 5}} {
		checkRow(t, "Reach", v, a.Reach(v, every), want)
	}
}

func TestP201OfATown(t *testing.T) {
	checkTown(t, adj.New(town()))
}

func checkNone(t *testing.T, a *adj.Adj, v int) {
	t.Helper()
	checkRow(t, "Out", v, a.Out(v), nil)
	checkRow(t, "In", v, a.In(v), nil)
	for _, modes := range []int{0, walk, every, -1, math.MaxInt, math.MinInt} {
		checkRow(t, "Reach", v, a.Reach(v, modes), nil)
	}
	if a.Modes(v) != 0 {
		t.Errorf("Modes %d: %d", v, a.Modes(v))
	}
}

func TestP201OfWhatIsNoVertex(t *testing.T) {
	for _, n := range []api.Net{town(), {N: 1}, {N: 60}, {N: 1, Edges: []api.Edge{{}}}, dense()} {
		a := adj.New(n)
		for _, v := range noVertex(n.N) {
			checkNone(t, a, v)
		}
	}
}

func TestP201WithoutEdges(t *testing.T) {
	for _, n := range []api.Net{{N: 1}, {N: 2, Edges: []api.Edge{}}, {N: 60}} {
		a := adj.New(n)
		for v := range n.N {
			checkRow(t, "Out", v, a.Out(v), nil)
			checkRow(t, "In", v, a.In(v), nil)
			checkRow(t, "Reach", v, a.Reach(v, every), []int{v})
			if a.Modes(v) != 0 {
				t.Errorf("Modes %d: %d", v, a.Modes(v))
			}
		}
	}
}

func TestP201FromAVertexToItself(t *testing.T) {
	a := adj.New(api.Net{N: 2, Edges: []api.Edge{{From: 1, To: 1, Mode: 2}, {From: 1, To: 1, Mode: 3}}})
	checkRow(t, "Out", 1, a.Out(1), []int{0, 1})
	checkRow(t, "In", 1, a.In(1), []int{0, 1})
	checkRow(t, "Reach", 1, a.Reach(1, every), []int{1})
	checkRow(t, "Reach", 0, a.Reach(0, every), []int{0})
	if a.Modes(1) != car|ferry || a.Modes(0) != 0 {
		t.Errorf("Modes: %d, %d", a.Modes(1), a.Modes(0))
	}
}

// The modes of the edges that only lead to a vertex count as well as those of the edges that only lead from it.
func TestP201ModesOfBothKindsOfEdges(t *testing.T) {
	for mode := range api.Modes {
		a := adj.New(api.Net{N: 3, Edges: []api.Edge{{From: 2, To: 0, Mode: mode}}})
		for v, want := range []int{1 << mode, 0, 1 << mode} {
			if a.Modes(v) != want {
				t.Errorf("mode %d, Modes %d: %d", mode, v, a.Modes(v))
			}
		}
	}
}

// dense is as large as a network may be: all edges lead from 59 to 0 or back.
func dense() api.Net {
	n := api.Net{N: api.MaxNodes}
	for i := range api.MaxEdges {
		from := i % 2 * 59
		n.Edges = append(n.Edges, api.Edge{From: from, To: 59 - from, Mode: i % api.Modes})
	}
	return n
}

func TestP201OfTheLargest(t *testing.T) {
	a := adj.New(dense())
	var even, odd []int
	for i := range 200 {
		even = append(even, 2*i)
		odd = append(odd, 2*i+1)
	}
	checkRow(t, "Out", 0, a.Out(0), even)
	checkRow(t, "In", 0, a.In(0), odd)
	checkRow(t, "Out", 59, a.Out(59), odd)
	checkRow(t, "In", 59, a.In(59), even)
	checkRow(t, "Out", 30, a.Out(30), nil)
	checkRow(t, "Reach", 59, a.Reach(59, ferry), []int{0, 59})
}

func TestP201ReachAlongARow(t *testing.T) {
	up, down := api.Net{N: 60}, api.Net{N: 60}
	for v := range 59 {
		up.Edges = append(up.Edges, api.Edge{From: v, To: v + 1, Mode: v % 2})
		down.Edges = append(down.Edges, api.Edge{From: v + 1, To: v, Mode: 4})
	}
	var all []int
	for v := range 60 {
		all = append(all, v)
	}
	a, b := adj.New(up), adj.New(down)
	for v := range 60 {
		checkRow(t, "Reach up", v, a.Reach(v, walk|bike), all[v:])
		checkRow(t, "Reach down", v, b.Reach(v, transit), all[:v+1])
		checkRow(t, "Reach by none", v, b.Reach(v, walk|bike|car|ferry), all[v:v+1])
	}
	checkRow(t, "Reach one on", 4, a.Reach(4, walk), []int{4, 5})
	checkRow(t, "Reach not on", 5, a.Reach(5, walk), []int{5})
}

func TestP201ReachBySomeModesAlone(t *testing.T) {
	a := adj.New(town())
	for _, x := range []struct {
		v, modes int
		want     []int
	}{
		{0, 0, []int{0}},
		{0, walk, []int{0, 2}},
		{0, bike, []int{0, 1}},
		{0, car, []int{0}},
		{0, ferry, []int{0, 2}},
		{0, transit, []int{0}},
		{0, walk | bike, []int{0, 1, 2}},
		{0, ferry | car, []int{0, 2, 3}},
		{1, walk, []int{1}},
		{1, bike, []int{0, 1}},
		{1, bike | walk, []int{0, 1, 2}},
		{1, bike | walk | car, []int{0, 1, 2, 3}},
		{1, walk | car | ferry | transit, []int{1}},
		{2, transit, []int{2}},
		{5, every &^ ferry, []int{5}},
		{5, ferry, []int{0, 2, 5}},
	} {
		checkRow(t, "Reach", x.v, a.Reach(x.v, x.modes), x.want)
	}
}

// Bits above the modes' are nothing; so a negative number is the set of its five lowest bits.
func TestP201ReachByBitsAbove(t *testing.T) {
	a := adj.New(town())
	for v := range 6 {
		for modes := range every + 1 {
			want := a.Reach(v, modes)
			for _, above := range []int{32, 64, 1 << 31, 1 << 32, 1 << 62, math.MinInt, -32, math.MaxInt &^ every} {
				checkRow(t, "Reach", v, a.Reach(v, modes|above), want)
			}
		}
	}
	checkRow(t, "Reach by all", 5, a.Reach(5, -1), []int{0, 1, 2, 3, 5})
	checkRow(t, "Reach by none", 5, a.Reach(5, -32), []int{5})
	checkRow(t, "Reach by all but w", 0, a.Reach(0, -2), []int{0, 1, 2, 3})
	checkRow(t, "Reach by f alone", 5, a.Reach(5, -24), []int{0, 2, 5})
	checkRow(t, "Reach by none", 0, a.Reach(0, math.MinInt), []int{0})
	checkRow(t, "Reach by all", 0, a.Reach(0, math.MaxInt), []int{0, 1, 2, 3})
}

// dice throws numbers, the same ones in each run.
type dice uint64

func (d *dice) below(bound int) int {
	*d = *d*6364136223846793005 + 1442695040888963407
	return int(*d>>33) % bound
}

func thrown(d *dice) api.Net {
	n := api.Net{N: 1 + d.below(api.MaxNodes)}
	for range d.below(2*n.N + 1) {
		n.Edges = append(n.Edges, api.Edge{From: d.below(n.N), To: d.below(n.N), Mode: d.below(api.Modes), Cost: d.below(9)})
	}
	return n
}

// leads tells, of each two vertices, whether a walk by these modes leads from one to the other.
func leads(n api.Net, modes int) [][]bool {
	is := make([][]bool, n.N)
	for v := range is {
		is[v] = make([]bool, n.N)
		is[v][v] = true
	}
	for _, e := range n.Edges {
		if modes>>e.Mode&1 == 1 {
			is[e.From][e.To] = true
		}
	}
	for mid := range is {
		for v := range is {
			for w := range is {
				is[v][w] = is[v][w] || is[v][mid] && is[mid][w]
			}
		}
	}
	return is
}

func TestP201OfNetworksByDice(t *testing.T) {
	d := dice(7)
	for range 100 {
		n := thrown(&d)
		a := adj.New(n)
		modes := d.below(every + 1)
		is := leads(n, modes)
		for v := range n.N {
			var out, in, reached []int
			set := 0
			for i, e := range n.Edges {
				if e.From == v {
					out = append(out, i)
					set |= 1 << e.Mode
				}
				if e.To == v {
					in = append(in, i)
					set |= 1 << e.Mode
				}
			}
			for w := range n.N {
				if is[v][w] {
					reached = append(reached, w)
				}
			}
			checkRow(t, "Out", v, a.Out(v), out)
			checkRow(t, "In", v, a.In(v), in)
			checkRow(t, "Reach", v, a.Reach(v, modes), reached)
			if a.Modes(v) != set {
				t.Errorf("Modes %d of %v: %d, not %d", v, n, a.Modes(v), set)
			}
		}
	}
}

// What New is handed may be no network: all calls must end, and no more.
func TestP1OfWhatIsNoNetwork(t *testing.T) {
	for _, n := range []api.Net{
		{}, {N: -1}, {N: 61}, {N: math.MaxInt}, {N: math.MinInt},
		{N: 0, Edges: []api.Edge{{}}}, {N: -3, Edges: []api.Edge{{From: -1, To: -1}}},
		{N: 2, Edges: make([]api.Edge, api.MaxEdges+1)}, {N: 1 << 40, Edges: []api.Edge{{From: 1 << 39}}},
		{N: 2, Edges: []api.Edge{{From: 2}}}, {N: 2, Edges: []api.Edge{{From: -1}}}, {N: 2, Edges: []api.Edge{{From: math.MaxInt}}},
		{N: 2, Edges: []api.Edge{{To: 2}}}, {N: 2, Edges: []api.Edge{{To: -1}}}, {N: 2, Edges: []api.Edge{{To: math.MinInt}}},
		{N: 2, Edges: []api.Edge{{Mode: -1}}}, {N: 2, Edges: []api.Edge{{Mode: 5}}}, {N: 2, Edges: []api.Edge{{Mode: math.MinInt}}}, {N: 2, Edges: []api.Edge{{Cost: -1}}},
	} {
		before := slices.Clone(n.Edges)
		a := adj.New(n)
		for _, v := range append(noVertex(2), 0, 1) {
			a.Out(v)
			a.In(v)
			a.Modes(v)
			a.Reach(v, every)
		}
		if !slices.Equal(n.Edges, before) {
			t.Errorf("changed: %v", n.Edges)
		}
	}
}

func TestP2TheNetworkIsNotKept(t *testing.T) {
	n := town()
	a := adj.New(n)
	for i := range n.Edges {
		n.Edges[i] = api.Edge{From: 4, To: 4, Mode: i % api.Modes}
	}
	checkTown(t, a)
	for i := range n.Edges {
		n.Edges[i] = api.Edge{From: -9, To: 99, Mode: -1, Cost: -1}
	}
	_ = append(n.Edges[:0], api.Edge{}, api.Edge{})
	checkTown(t, a)
}

func TestP2TheNetworkIsNotChanged(t *testing.T) {
	n := town()
	spare := append(slices.Grow(n.Edges, 3), api.Edge{From: 77}, api.Edge{To: 78})
	n.Edges = spare[:len(n.Edges)]
	before := slices.Clone(spare)
	checkTown(t, adj.New(n))
	if !slices.Equal(spare, before) {
		t.Errorf("changed: %v", spare)
	}
}

// spoil writes over a row that was told, and over its spare room.
func spoil(row []int) {
	row = append(row, 90, 91, 92)
	row = row[:cap(row)]
	for i := range row {
		row[i] = -7
	}
}

// spoilInPlace does so without a greater memory.
func spoilInPlace(row []int) {
	row = row[:cap(row)]
	for i := range row {
		row[i] = -7
	}
}

func TestP2WhatWasToldIsNewMemory(t *testing.T) {
	a := adj.New(town())
	for v := range 6 {
		for _, row := range [][]int{a.Out(v), a.In(v), a.Reach(v, every), a.Reach(v, 0)} {
			spoil(row)
			spoilInPlace(row)
			checkTown(t, a)
		}
	}
}

func TestP2TwoAnswersShareNothing(t *testing.T) {
	a := adj.New(town())
	out, in, reached := a.Out(0), a.In(2), a.Reach(0, every)
	spoilInPlace(a.Out(0))
	spoilInPlace(a.Out(1))
	spoilInPlace(a.In(1))
	spoilInPlace(a.In(2))
	spoilInPlace(a.Reach(0, every))
	checkRow(t, "Out", 0, out, []int{1, 2, 4, 6})
	checkRow(t, "In", 2, in, []int{1, 4, 5, 6})
	checkRow(t, "Reach", 0, reached, []int{0, 1, 2, 3})
}

func TestP3TheSameCallsAnswerTheSame(t *testing.T) {
	ask := func() (told []any) {
		for _, n := range []api.Net{town(), dense(), {N: 3}} {
			a := adj.New(n)
			for v := -1; v <= n.N; v++ {
				told = append(told, a.Out(v), a.In(v), a.Modes(v), a.Reach(v, walk|car))
			}
		}
		return told
	}
	if first, again := ask(), ask(); !reflect.DeepEqual(first, again) {
		t.Errorf("%v, then %v", first, again)
	}
}

func TestP7SideBySide(t *testing.T) {
	n := town()
	a := adj.New(n)
	again := adj.New(n)
	if a == again {
		t.Error("one object was told twice")
	}
	other := adj.New(dense())
	for v := range 6 {
		spoil(other.Out(v))
		spoil(again.In(v))
		spoil(again.Reach(v, every))
	}
	checkTown(t, a)
	checkTown(t, again)
	checkRow(t, "Reach", 59, other.Reach(59, walk), []int{0, 59})
}
