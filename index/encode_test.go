package index_test

import (
	"slices"
	"testing"

	"milestone/api"
	"milestone/hier"
	"milestone/index"
)

func TestP1201EncodeOfOneVertex(t *testing.T) {
	const begin, end = "4d495831 00000001 00000000 ", " 00000000 00000000 00000000"
	checkEncode(t, bare(0), fromHex(begin, "00000001", end))
	checkEncode(t, bare(-1), fromHex(begin, "00000000", end))
	checkEncode(t, hier.Build(api.Net{N: 1}), fromHex(begin, "00000001", end))
	empty := api.Index{Net: api.Net{N: 1, Edges: []api.Edge{}}, Rank: []int{0}, Arcs: []api.Arc{}, Up: [][]int{{}}, Down: [][]int{{}}}
	checkEncode(t, empty, fromHex(begin, "00000001", end))
}

func TestP1201EncodeWithoutArcs(t *testing.T) {
	x := bare(2, -1, 0, 1)
	const end = "00000003 00000000 00000001 00000002 00000000 00000000 00000000 00000000 00000000 00000000 00000000 00000000 00000000"
	checkEncode(t, x, fromHex("4d495831 00000004 00000000", end))
	x.Net.Edges = []api.Edge{{From: 3, To: 2, Mode: 1, Cost: 0x7a6b5c4d}, {From: 0, To: 1, Mode: 4, Cost: 256}}
	checkEncode(t, x, fromHex("4d495831 00000004 00000002", "00000003 00000002 00000001 7a6b5c4d", "00000000 00000001 00000004 00000100", end))
}

func TestP1201EncodeOfEdgesAndShortcuts(t *testing.T) {
	checkEncode(t, port(), portBytes())
	checkEncode(t, hier.Build(port().Net), portBytes())
	if string(plainly(port()).bytes) != string(portBytes()) { // others are held against it
		t.Error("the plain writing is wrong")
	}
}

// Lists stand as they are, in whatever order.
func TestP1201EncodeOfUpAndDown(t *testing.T) {
	x := port()
	x.Up[2] = []int{3, 4}
	end := len(portBytes())
	checkEncode(t, x, slices.Concat(portBytes()[:end-24], fromHex("00000003 00000004 00000001 00000002 00000000 00000000")))
	x.Down[0] = nil
	checkEncode(t, x, slices.Concat(portBytes()[:end-24], fromHex("00000003 00000004 00000000 00000000 00000000")))
	x.Up = make([][]int, 3)
	checkEncode(t, x, slices.Concat(portBytes()[:end-44], fromHex("00000000 00000000 00000000 00000000 00000000 00000000")))
}

// An arc's cost has eight bytes: three times the greatest one of an edge, and a thousand times.
func TestP1201EncodeOfGreatCosts(t *testing.T) {
	b := index.Encode(round(api.MaxCost, 1000))
	arcs := b[len("MIX1")+4+4+16+4+4:]
	for times, want := range map[int]string{
		1:    "00000000 00000000 00000000 000000007fffffff 00000001 00000000 00000000",
		2:    "00000000 00000000 00000000 00000000fffffffe 00000000 00000000 00000000",
		3:    "00000000 00000000 00000000 000000017ffffffd 00000000 00000001 00000000",
		258:  "00000000 00000000 00000000 00000080fffffefe 00000000 00000100 00000000",
		1000: "00000000 00000000 00000000 000001f3fffffc18 00000000 000003e6 00000000",
	} {
		if got := arcs[32*(times-1) : 32*times]; string(got) != string(fromHex(want)) {
			t.Errorf("%d times: %x, not %s", times, got, want)
		}
	}
}

// The greatest Rank and Edge: 59 and 399.
func TestP1201EncodeOfOneMore(t *testing.T) {
	x := bare(make([]int, 60)...)
	for v := range x.Rank {
		x.Rank[v] = v
	}
	x.Net.Edges = make([]api.Edge, api.MaxEdges)
	x.Arcs = []api.Arc{{Edge: 399}, {Edge: 0}}
	b := index.Encode(x)
	ranks := b[12+16*400:]
	for v := range 60 {
		if got := ranks[4*v : 4*v+4]; string(got) != string([]byte{0, 0, 0, byte(v + 1)}) {
			t.Errorf("Rank %d: %x", v, got)
		}
	}
	arcs := ranks[4*60+4:]
	if string(arcs[20:24]) != string([]byte{0, 0, 1, 0x90}) || string(arcs[52:56]) != string([]byte{0, 0, 0, 1}) {
		t.Errorf("Edge 399: %x, Edge 0: %x", arcs[20:24], arcs[52:56])
	}
}

func checkLength(t *testing.T, x api.Index) {
	t.Helper()
	rows := 0
	for v := range x.Net.N {
		rows += len(x.Up[v]) + len(x.Down[v])
	}
	want := 4 + 4 + 4 + 16*len(x.Net.Edges) + 4*x.Net.N + 4 + 32*len(x.Arcs) + 8*x.Net.N + 4*rows
	if got := len(index.Encode(x)); got != want {
		t.Errorf("%d vertices, %d edges, %d arcs, %d in lists: %d bytes, not %d", x.Net.N, len(x.Net.Edges), len(x.Arcs), rows, got, want)
	}
}

func TestP1201EncodeHowManyBytes(t *testing.T) {
	checkLength(t, bare(0))
	checkLength(t, port())
	checkLength(t, largest())
	d := dice(12011)
	for range 300 {
		vertices := 1 + d.below(api.MaxNodes)
		checkLength(t, hier.Build(d.anyNet(vertices, d.below(4*vertices))))
	}
}

func TestP1201EncodeOfWhatWasBuilt(t *testing.T) {
	d := dice(12012)
	shortcuts := 0
	for range 500 {
		vertices := 1 + d.below(20)
		x := hier.Build(d.anyNet(vertices, d.below(4*vertices)))
		checkEncode(t, x, plainly(x).bytes)
		for _, a := range x.Arcs {
			if a.Edge == -1 {
				shortcuts++
			}
		}
	}
	if shortcuts < 1000 {
		t.Errorf("%d shortcuts", shortcuts)
	}
}
