package hier_test

import (
	"math"
	"slices"
	"testing"

	"milestone/api"
	"milestone/hier"
	"milestone/net"
)

// isNothing tells whether an index has nothing; of what is no network P8 asks for no more than that Build ends.
func isNothing(x api.Index) bool {
	return x.Net.N == 0 && len(x.Net.Edges)+len(x.Rank)+len(x.Arcs)+len(x.Up)+len(x.Down) == 0
}

func TestP1BuildOfWhatIsNoNetwork(t *testing.T) {
	for _, n := range []api.Net{
		{}, {N: -1}, {N: -60}, {N: 61}, {N: 1 << 32}, {N: 1<<32 + 1}, {N: math.MaxInt}, {N: math.MinInt},
		{N: 0, Edges: []api.Edge{{}}}, {N: -3, Edges: []api.Edge{{From: -1, To: -1}}},
		{N: 2, Edges: make([]api.Edge, api.MaxEdges+1)}, {N: 1 << 40, Edges: []api.Edge{{From: 1 << 39}}},
	} {
		if !isNothing(hier.Build(n)) {
			t.Errorf("N %d, %d edges: something", n.N, len(n.Edges))
		}
	}
	for _, wrong := range []api.Edge{
		{From: 4}, {From: -1}, {From: math.MaxInt}, {To: 4}, {To: -1}, {To: math.MinInt}, {Mode: 5}, {Mode: -1}, {Mode: math.MaxInt}, {Cost: -1}, {Cost: api.MaxCost + 1}, {Cost: math.MinInt},
	} {
		n := town(t).Net
		for at := range len(n.Edges) + 1 {
			if !isNothing(hier.Build(api.Net{N: 4, Edges: slices.Insert(slices.Clone(n.Edges), at, wrong)})) {
				t.Errorf("%v among the edges: something", wrong)
			}
		}
	}
}

func (d *dice) anyNumber() int {
	if d.below(8) == 0 {
		return odd[d.below(len(odd))]
	}
	return d.below(4) - 1
}

func (d *dice) anyNumbers() []int {
	var row []int
	for range d.below(4) {
		row = append(row, d.anyNumber())
	}
	return row
}

func (d *dice) anyLists() [][]int {
	var lists [][]int
	for range d.below(4) {
		lists = append(lists, d.anyNumbers())
	}
	return lists
}

// anyIndex is any index whatever.
func (d *dice) anyIndex() api.Index {
	x := api.Index{Net: api.Net{N: d.anyNumber()}, Rank: d.anyNumbers(), Up: d.anyLists(), Down: d.anyLists()}
	for range d.below(4) {
		x.Net.Edges = append(x.Net.Edges, api.Edge{From: d.anyNumber(), To: d.anyNumber(), Mode: d.anyNumber(), Cost: d.anyNumber()})
	}
	for range d.below(5) {
		x.Arcs = append(x.Arcs, api.Arc{From: d.anyNumber(), To: d.anyNumber(), Mode: d.anyNumber(), Cost: d.anyNumber(), Edge: d.anyNumber(), A: d.anyNumber(), B: d.anyNumber()})
	}
	return x
}

func TestP1OfAnyIndexWhatever(t *testing.T) {
	d := dice(1)
	for range 50000 {
		x := d.anyIndex()
		if hier.Check(x) != right(x) {
			t.Errorf("%v: not %v", x, right(x))
		}
		for _, arc := range append(odd, d.anyNumber()) {
			hier.Unpack(x, arc)
		}
		if !net.Check(x.Net) && !isNothing(hier.Build(x.Net)) {
			t.Errorf("%v: something", x.Net)
		}
	}
}

// Unpack ends, soon, of what would be without end, or beyond all bounds.
func TestP1UnpackOfWhatCheckRefuses(t *testing.T) {
	twice := round(0)
	for i := range 5000 {
		twice.Arcs = append(twice.Arcs, short(0, 0, 0, 0, i, i))
	}
	long := row(0, 300000, false)
	turned := row(0, 300000, true)
	self := round(0, short(0, 0, 0, 0, 1, 1), short(0, 0, 0, 0, 2, 0), short(0, 0, 0, 0, 0, 3), short(0, 0, 0, 0, 5, 5), short(0, 0, 0, 0, 4, 4))
	beyond := round(0, short(0, 0, 0, 0, -1, 0), short(0, 0, 0, 0, 0, -1), short(0, 0, 0, 0, math.MaxInt, 0), short(0, 0, 0, 0, 0, math.MinInt), api.Arc{Edge: -2, A: 7, B: 7})
	for _, x := range []api.Index{twice, long, turned, self, beyond} {
		for i := range 6 {
			hier.Unpack(x, i)
			hier.Unpack(x, len(x.Arcs)-1-i)
		}
		if hier.Check(x) {
			t.Error("allowed")
		}
	}
	for range 100000 {
		hier.Unpack(twice, 5000)
	}
}

func TestP1UnpackOfNoArc(t *testing.T) {
	for _, arc := range []int{-1, -2, 8, 9, 300000, 1 << 32, math.MaxInt, math.MinInt} {
		checkUnpack(t, town(t), arc)
		checkUnpack(t, api.Index{}, arc)
	}
	checkUnpack(t, api.Index{}, 0)
	// An arc in the spare room is none.
	x := town(t)
	x.Arcs = append(x.Arcs, x.Arcs...)[:8]
	checkUnpack(t, x, 8)
}

// roomy is a row with spare room behind it, filled with a sign.
func roomy[T any](row []T, sign T) []T {
	return append(slices.Clone(row), sign, sign, sign)[:len(row)]
}

// whole is a copy of the row and its spare room.
func whole[T any](row []T) []T {
	return slices.Clone(row[:cap(row)])
}

// spoil fills a row and its spare room.
func spoil[T any](row []T, sign T) {
	for i := range row[:cap(row)] {
		row[:cap(row)][i] = sign
	}
}

// roomyTown is the town, with spare room behind each list.
func roomyTown(t *testing.T) api.Index {
	x := town(t)
	x.Net.Edges, x.Rank, x.Arcs = roomy(x.Net.Edges, api.Edge{From: 77}), roomy(x.Rank, 78), roomy(x.Arcs, api.Arc{From: 79})
	for v := range x.Up {
		x.Up[v], x.Down[v] = roomy(x.Up[v], 80), roomy(x.Down[v], 81)
	}
	x.Up, x.Down = roomy(x.Up, []int{82}), roomy(x.Down, []int{83})
	return x
}

// wholeIndex is a copy of an index, where spare room is not spare.
func wholeIndex(x api.Index) api.Index {
	y := api.Index{Net: api.Net{N: x.Net.N, Edges: whole(x.Net.Edges)}, Rank: whole(x.Rank), Arcs: whole(x.Arcs), Up: whole(x.Up), Down: whole(x.Down)}
	for v := range y.Up {
		y.Up[v] = whole(y.Up[v])
	}
	for v := range y.Down {
		y.Down[v] = whole(y.Down[v])
	}
	return y
}

func TestP2TheNetworkIsNotChanged(t *testing.T) {
	d := dice(2)
	for range 200 {
		n := d.anyNet(1+d.below(10), d.below(30))
		n.Edges = roomy(n.Edges, api.Edge{From: 77, Cost: -1})
		before := whole(n.Edges)
		spoilIndex(hier.Build(n), 5)
		if !slices.Equal(whole(n.Edges), before) {
			t.Errorf("changed: %v, not %v", whole(n.Edges), before)
		}
		hier.Build(api.Net{N: -1, Edges: n.Edges})
		if !slices.Equal(whole(n.Edges), before) {
			t.Errorf("changed, as it was none: %v, not %v", whole(n.Edges), before)
		}
	}
	none := roomy([]api.Edge{}, api.Edge{From: 77}) // an empty list with spare room
	before := whole(none)
	spoilIndex(hier.Build(api.Net{N: 3, Edges: none}), 5)
	if !slices.Equal(whole(none), before) {
		t.Errorf("changed: %v", whole(none))
	}
}

func TestP2TheNetworkIsNotKept(t *testing.T) {
	n := town(t).Net
	x := hier.Build(n)
	spoil(n.Edges, api.Edge{From: 3, To: 2, Mode: 1, Cost: 9})
	checkSame(t, x, town(t))
	checkPlainly(t, n)
	checkSame(t, hier.Build(town(t).Net), town(t))
}

func TestP2TheIndexIsNotChanged(t *testing.T) {
	x := roomyTown(t)
	before := wholeIndex(x)
	if !hier.Check(x) {
		t.Error("spare room is looked at")
	}
	for i := range x.Arcs {
		spoil(hier.Unpack(x, i), -9)
	}
	checkSame(t, wholeIndex(x), before)
	// Lists that are not sorted, one that is refused.
	for _, change := range []func(x *api.Index){
		func(x *api.Index) { x.Up[0] = roomy([]int{7, 0}, 1) },
		func(x *api.Index) { x.Up[2] = roomy([]int{5, 4, 5}, 1) },
		func(x *api.Index) { x.Rank = roomy([]int{3, 1, 2, 0}, 1) },
		func(x *api.Index) { x.Rank = roomy([]int{1, 1, -1, -5}, 1) },
		func(x *api.Index) { x.Down[1] = roomy([]int{1, 9, -4}, 1) },
		func(x *api.Index) { x.Arcs[7].A = 8 },
	} {
		x := roomyTown(t)
		change(&x)
		before := wholeIndex(x)
		hier.Check(x)
		hier.Unpack(x, 7)
		checkSame(t, wholeIndex(x), before)
	}
}

// What was asked of an index hangs on what it is by then, not on what it was.
func TestP2TheIndexIsNotKept(t *testing.T) {
	x := town(t)
	edges := hier.Unpack(x, 7)
	if !hier.Check(x) {
		t.Error("refused")
	}
	x.Arcs[1].Edge, x.Arcs[3].Edge = 1, 0
	if hier.Check(x) || !slices.Equal(edges, []int{0, 1}) {
		t.Errorf("kept: %v", edges)
	}
	checkUnpack(t, x, 7, 1, 0)
	checkUnpack(t, town(t), 7, 0, 1)
}

// intLists are all lists of numbers of an index.
func intLists(x api.Index) [][]int {
	return slices.Concat([][]int{x.Rank}, x.Up, x.Down)
}

// spoilIndex fills each list of an index, and its spare room, with a sign.
func spoilIndex(x api.Index, sign int) {
	for _, list := range intLists(x) {
		spoil(list, sign)
	}
	spoil(x.Net.Edges, api.Edge{From: sign, To: sign})
	spoil(x.Arcs, api.Arc{From: sign, To: sign})
	spoil(x.Up, []int{sign})
	spoil(x.Down, []int{sign})
}

// No two lists of one answer share memory, nor spare room: each keeps a sign of its own.
func TestP2ListsOfOneAnswerShareNone(t *testing.T) {
	d := dice(21)
	for range 200 {
		x := hier.Build(d.anyNet(1+d.below(20), d.below(60)))
		lists := intLists(x)
		for sign, list := range lists {
			spoil(list, sign)
		}
		for sign, list := range lists {
			for _, number := range list[:cap(list)] {
				if number != sign {
					t.Fatalf("list %d has %d", sign, number)
				}
			}
		}
		spoil(x.Up, []int{-7})
		spoil(x.Down, []int{-8})
		for _, list := range x.Up[:cap(x.Up)] {
			if list[0] != -7 {
				t.Fatal("Up and Down share")
			}
		}
	}
}

// What was told may be changed: what is told anew, and what was told beside it, is as it was.
func TestP2WhatIsToldIsNew(t *testing.T) {
	n := town(t).Net
	x, edges := hier.Build(n), hier.Unpack(town(t), 7)
	for range 3 {
		spoilIndex(hier.Build(n), 3)
		spoilIndex(hier.Build(api.Net{N: 4}), 3)
		spoilIndex(hier.Build(api.Net{N: 61}), 3)
		for i := range x.Arcs {
			spoil(hier.Unpack(x, i), 3)
			spoil(append(hier.Unpack(x, i), 3), 3)
		}
		spoil(hier.Unpack(x, -1), 3)
		checkSame(t, hier.Build(n), town(t))
		checkUnpack(t, x, 7, 0, 1)
	}
	checkSame(t, x, town(t))
	if !slices.Equal(edges, []int{0, 1}) {
		t.Errorf("what was told shares with what was told anew: %v", edges)
	}
}

func TestP3TheSameCallsAnswerTheSame(t *testing.T) {
	d := dice(3)
	for range 200 {
		n := d.anyNet(1+d.below(api.MaxNodes), d.below(100))
		x := hier.Build(n)
		other := hier.Build(api.Net{N: n.N, Edges: slices.Clone(n.Edges)})
		hier.Build(town(t).Net)
		hier.Check(api.Index{})
		checkSame(t, other, x)
		checkSame(t, hier.Build(n), x)
		for i := range x.Arcs {
			checkUnpack(t, other, i, hier.Unpack(x, i)...)
		}
	}
}
