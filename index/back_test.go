package index_test

import (
	"slices"
	"testing"

	"milestone/api"
	"milestone/hier"
	"milestone/index"
	"milestone/net"
)

func TestP1202BackOfWhatWasBuilt(t *testing.T) {
	checkBack(t, hier.Build(port().Net))
	d := dice(12031)
	for range 2000 {
		vertices := 1 + d.below(14)
		checkBack(t, hier.Build(d.anyNet(vertices, d.below(4*vertices))))
	}
	for vertices := range api.MaxNodes {
		checkBack(t, hier.Build(api.Net{N: vertices + 1}))
	}
}

func TestP1202BackOfTheLargestThatWasBuilt(t *testing.T) {
	d := dice(12032)
	for range 40 {
		checkBack(t, hier.Build(d.anyNet(api.MaxNodes, api.MaxEdges)))
	}
	ring := api.Net{N: api.MaxNodes, Edges: []api.Edge{{Mode: 1, Cost: api.MaxCost}}}
	for v := range ring.N {
		ring.Edges = append(ring.Edges, api.Edge{From: v, To: (v + 1) % ring.N, Cost: api.MaxCost})
	}
	x := hier.Build(ring)
	if last := x.Arcs[len(x.Arcs)-1]; last.Cost != 60*api.MaxCost {
		t.Errorf("once round: %v", last)
	}
	checkBack(t, x)
}

// Others than are built: the lists in another order, some, or none; arcs twice, or in no list; another order of vertices.
func TestP1202BackOfOthers(t *testing.T) {
	checkBack(t, port())
	checkBack(t, bare(3, 1, -1, 0, 2))
	for _, change := range []func(x *api.Index){
		func(x *api.Index) { x.Up[2] = []int{3, 4} },
		func(x *api.Index) { x.Up[2] = []int{4} },
		func(x *api.Index) { x.Down[0] = nil },
		func(x *api.Index) { x.Up, x.Down = make([][]int, 3), make([][]int, 3) },
		func(x *api.Index) { x.Up, x.Down = [][]int{{}, {}, {}}, [][]int{{}, {}, {}} },
		func(x *api.Index) { x.Up, x.Down, x.Arcs = make([][]int, 3), make([][]int, 3), []api.Arc{} },
		func(x *api.Index) { x.Arcs = append(x.Arcs, x.Arcs...) },
		func(x *api.Index) {
			x.Arcs, x.Up[2], x.Down[0] = append(x.Arcs, x.Arcs...), []int{9, 3, 8, 4}, []int{7, 2}
		},
		func(x *api.Index) { x.Rank, x.Up, x.Down[0] = []int{-1, -1, -1}, [][]int{{0}, {1}, {2, 3, 4}}, nil },
		func(x *api.Index) { x.Rank, x.Up = []int{1, 0, 2}, [][]int{{}, {1}, {3}}; x.Down[1] = []int{0, 4} },
		func(x *api.Index) { x.Net.Edges = append(x.Net.Edges, x.Net.Edges...) },
		func(x *api.Index) { x.Net.Edges[4].Cost = 0 },
	} {
		x := port()
		change(&x)
		checkBack(t, x)
	}
}

func TestP1202BackOfTheLargest(t *testing.T) {
	checkBack(t, largest())
	for _, cost := range []int{0, 1, api.MaxCost} {
		checkBack(t, round(cost, 1000))
	}
	x := round(3, 1)
	x.Arcs = slices.Repeat(x.Arcs, 300000)
	for i := range x.Arcs {
		x.Up[0] = append(x.Up[0], len(x.Arcs)-1-i)
	}
	checkBack(t, x)
}

// Of what was built, numbers and lists changed: all that are allowed.
func TestP1202BackOfOthersByDice(t *testing.T) {
	d := dice(12033)
	allowed := 0
	for range 20000 {
		x := hier.Build(d.anyNet(1+d.below(6), d.below(14)))
		for range 1 + d.below(2) {
			lists := [][][]int{x.Up, x.Down}[d.below(2)]
			v := d.below(len(lists))
			switch d.below(5) {
			case 0:
				all := places(&x)
				*all[d.below(len(all))] = d.below(8) - 1
			case 1:
				slices.Reverse(lists[v])
			case 2:
				lists[v] = append(lists[v], d.below(len(x.Arcs)+1))
			case 3:
				lists[v] = lists[v][:len(lists[v])/2]
			case 4:
				x.Arcs = append(x.Arcs, x.Arcs[:d.below(len(x.Arcs)+1)]...)
			}
		}
		if hier.Check(x) {
			checkBack(t, x)
			allowed++
		} else {
			checkRefused(t, index.Encode(x)) // of what is not allowed there are no bytes to read
		}
	}
	if allowed < 1000 {
		t.Errorf("%d allowed", allowed)
	}
}

// known keeps which index has which bytes.
type known map[string]api.Index

func (k known) meet(t *testing.T, x api.Index) {
	t.Helper()
	b := string(index.Encode(x))
	if y, is := k[b]; is && !same(x, y) {
		t.Fatalf("%v and\n%v have the same bytes", x, y)
	}
	if y, e := index.Decode([]byte(b)); e == api.OK {
		k[b] = y
	}
}

// Indexes that differ by a number, or by where a list ends, have other bytes.
func TestP1202OtherIndexesHaveOtherBytes(t *testing.T) {
	all := make(known)
	for _, x := range samples() {
		all.meet(t, x)
		for _, place := range places(&x) {
			was := *place
			for _, number := range []int{-1, 0, 1, 2, 3, 4, 59, 255, 256, 257, was + 1, was - 1, was + 256, was + 1<<16, was + 1<<24, was + 1<<32, api.MaxCost} {
				if *place = number; hier.Check(x) {
					all.meet(t, x)
				}
			}
			*place = was
		}
		for _, lists := range [][][]int{x.Up, x.Down} {
			for v, was := range lists {
				for length := range was {
					lists[v] = was[:length]
					all.meet(t, x)
					lists[v] = was
				}
			}
		}
	}
	d := dice(12034)
	for range 3000 {
		all.meet(t, hier.Build(d.anyNet(1+d.below(3), d.below(4))))
	}
	if len(all) < 1000 {
		t.Errorf("%d kinds of bytes", len(all))
	}
}

// T5: whatever bytes are read, each arc's edges are a walk at its cost.
func TestT5WhatIsReadTellsOnlyWalks(t *testing.T) {
	d := dice(12035)
	read := 0
	for range 30000 {
		b := index.Encode(hier.Build(d.anyNet(1+d.below(5), d.below(12))))
		for range 1 + d.below(2) {
			b[d.below(len(b))|3] = byte(d.below(7))
		}
		x, e := index.Decode(b)
		if e != api.OK {
			continue
		}
		read++
		for i, a := range x.Arcs {
			edges := hier.Unpack(x, i)
			cost, _, is := net.Walk(x.Net, a.From, a.To, edges)
			if !is || cost != a.Cost || len(edges) == 0 {
				t.Fatalf("%v: arc %d: %v, no walk at its cost", x, i, edges)
			}
		}
	}
	if read < 1000 {
		t.Errorf("%d read", read)
	}
}
