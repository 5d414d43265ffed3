package order_test

import (
	"math"
	"slices"
	"testing"

	"milestone/api"
	"milestone/net"
	"milestone/order"
)

// town is a network with links, loops, edges side by side, and a vertex alone.
func town() api.Net {
	return network(7, edge(0, 1, 0), edge(1, 2, 0), edge(2, 3, 1), edge(3, 3, 1), edge(4, 4, 2), edge(1, 0, 0), edge(1, 0, 0), edge(5, 6, 3))
}

func checkTown(t *testing.T, n api.Net) {
	t.Helper()
	check(t, n, []int{2}, []int{5, 6, 4, 0, 3, 1})
}

// refuses tells whether there are no links and no order; of what is no network P8 asks for no more than that each call ends.
func refuses(n api.Net) bool {
	return len(order.Links(n)) == 0 && len(order.Order(n)) == 0
}

func TestP1OfWhatIsNoNetwork(t *testing.T) {
	for _, n := range []api.Net{
		{}, {N: -1}, {N: -60}, {N: 61}, {N: 1 << 32}, {N: 1<<32 + 1}, {N: math.MaxInt}, {N: math.MinInt},
		{N: 0, Edges: []api.Edge{{}}}, {N: -3, Edges: []api.Edge{{From: -1, To: -1}}},
		{N: 2, Edges: make([]api.Edge, api.MaxEdges+1)}, {N: 1 << 40, Edges: []api.Edge{{From: 1 << 39}}},
	} {
		if !refuses(n) {
			t.Errorf("N %d, %d edges: not refused", n.N, len(n.Edges))
		}
	}
}

func TestP1OfEdgesThatAreNone(t *testing.T) {
	for _, wrong := range []api.Edge{
		{From: 7}, {From: -1}, {From: 60}, {From: math.MaxInt}, {From: math.MinInt},
		{To: 7}, {To: -1}, {To: 60}, {To: math.MaxInt}, {To: math.MinInt},
		{Mode: 5}, {Mode: -1}, {Mode: 64}, {Mode: math.MaxInt}, {Mode: math.MinInt},
		{Cost: -1}, {Cost: api.MaxCost + 1}, {Cost: math.MaxInt}, {Cost: math.MinInt},
	} {
		for at := range len(town().Edges) + 1 {
			n := town()
			n.Edges = slices.Insert(n.Edges, at, wrong)
			if !refuses(n) {
				t.Errorf("%v among the edges: not refused", wrong)
			}
		}
	}
}

// odd are numbers that bounds are held against.
var odd = []int{-1, 4, 5, 59, 60, 61, 400, 1<<31 - 1, 1 << 31, 1 << 32, -1 << 31, math.MaxInt, math.MinInt}

func (d *dice) anyNumber() int {
	if d.below(12) == 0 {
		return odd[d.below(len(odd))]
	}
	return d.below(3)
}

func TestP1OfNetworksAndWhatIsNearlyOne(t *testing.T) {
	d := dice(1)
	fits := 0
	for range 20000 {
		n := api.Net{N: d.anyNumber()}
		for range d.below(4) {
			n.Edges = append(n.Edges, api.Edge{From: d.anyNumber(), To: d.anyNumber(), Mode: d.anyNumber(), Cost: d.anyNumber()})
		}
		if !net.Check(n) {
			if !refuses(n) {
				t.Errorf("%v: not refused", n)
			}
			continue
		}
		fits++
		links, others := plainly(n)
		check(t, n, links, others)
	}
	if fits < 1000 || fits > 19000 {
		t.Errorf("%d fit", fits)
	}
}

// P2: spare room behind the edges is looked at, too.
func TestP2TheNetworkIsNotChanged(t *testing.T) {
	for _, edges := range [][]api.Edge{town().Edges, nil, append(town().Edges, edge(0, 7, 0))} {
		spare := append(slices.Clone(edges), edge(77, 0, 0), edge(0, 78, 9), edge(-1, -1, -1))
		before := slices.Clone(spare)
		n := network(7, spare[:len(edges)]...)
		spoil(order.Links(n), true)
		spoil(order.Order(n), -8)
		if !slices.Equal(spare, before) {
			t.Errorf("changed: %v, not %v", spare, before)
		}
	}
}

// Edges in the spare room are none of the network's.
func TestP2SpareRoomIsNotRead(t *testing.T) {
	n := town()
	n.Edges = append(n.Edges, edge(4, 4, 3), edge(5, 0, 4), edge(0, 0, 0))[:len(n.Edges)]
	checkTown(t, n)
}

func TestP2TheNetworkIsNotKept(t *testing.T) {
	n := town()
	links, others := order.Links(n), order.Order(n)
	wantLinks, wantOthers := slices.Clone(links), slices.Clone(others)
	for i := range n.Edges {
		n.Edges[i] = edge(i%7, i%3, i%api.Modes)
	}
	if !slices.Equal(links, wantLinks) || !slices.Equal(others, wantOthers) {
		t.Errorf("what was told has changed: %v, %v", links, others)
	}
	nowLinks, nowOthers := plainly(n)
	check(t, n, nowLinks, nowOthers)
	checkTown(t, town())
}

// spoil fills a row and its spare room.
func spoil[T any](row []T, sign T) {
	for i := range row[:cap(row)] {
		row[:cap(row)][i] = sign
	}
}

// What was told may be changed: what is told anew, and what was told beside it, is as it was.
func TestP2WhatIsToldIsNew(t *testing.T) {
	n := town()
	links, others := order.Links(n), order.Order(n)
	wantLinks, wantOthers := slices.Clone(links), slices.Clone(others)
	for range 3 {
		for _, sign := range []bool{true, false} {
			spoil(order.Links(n), sign)
			spoil(append(order.Links(n), sign), sign)
		}
		spoil(order.Order(n), 0)
		spoil(append(order.Order(n), -8), -8)
		spoil(order.Order(network(1)), 5)
		spoil(order.Order(network(api.MaxNodes)), 5)
		checkTown(t, n)
	}
	if !slices.Equal(links, wantLinks) || !slices.Equal(others, wantOthers) {
		t.Errorf("what was told shares with what was told anew: %v, %v", links, others)
	}
}

func TestP3TheSameCallsAnswerTheSame(t *testing.T) {
	d := dice(3)
	for range 300 {
		n := d.anyNet(1+d.below(api.MaxNodes), d.below(100))
		other := network(n.N, slices.Clone(n.Edges)...)
		links, others := order.Links(n), order.Order(n)
		order.Order(town())
		order.Links(network(61))
		if !slices.Equal(order.Links(other), links) || !slices.Equal(order.Order(other), others) {
			t.Errorf("%v: %v, then %v", n, others, order.Order(other))
		}
	}
}
