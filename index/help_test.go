package index_test

import (
	"encoding/binary"
	"encoding/hex"
	"slices"
	"strings"
	"testing"

	"milestone/api"
	"milestone/hier"
	"milestone/index"
)

// fromHex are the bytes that rows of hexadecimal digits tell.
func fromHex(rows ...string) []byte {
	b, err := hex.DecodeString(strings.ReplaceAll(strings.Join(rows, ""), " ", ""))
	if err != nil {
		panic(err)
	}
	return b
}

// plain writes any index whatever as the chapter says it, each number cut to its bytes, and keeps where counts stand.
type plain struct {
	bytes  []byte
	counts []int
}

func plainly(x api.Index) *plain {
	p := &plain{bytes: []byte("MIX1")}
	p.count(x.Net.N)
	p.count(len(x.Net.Edges))
	for _, e := range x.Net.Edges {
		p.four(e.From, e.To, e.Mode, e.Cost)
	}
	for _, rank := range x.Rank {
		p.four(rank + 1)
	}
	p.count(len(x.Arcs))
	for _, a := range x.Arcs {
		p.four(a.From, a.To, a.Mode)
		p.bytes = binary.BigEndian.AppendUint64(p.bytes, uint64(a.Cost))
		p.four(a.Edge+1, a.A, a.B)
	}
	for _, lists := range [][][]int{x.Up, x.Down} {
		for _, list := range lists {
			p.count(len(list))
			p.four(list...)
		}
	}
	return p
}

func (p *plain) four(numbers ...int) {
	for _, n := range numbers {
		p.bytes = binary.BigEndian.AppendUint32(p.bytes, uint32(n))
	}
}

func (p *plain) count(n int) {
	p.counts = append(p.counts, len(p.bytes))
	p.four(n)
}

// put is a copy of the bytes with another number of four bytes at a place.
func put(b []byte, at int, number uint32) []byte {
	b = slices.Clone(b)
	binary.BigEndian.PutUint32(b[at:], number)
	return b
}

func same(x, y api.Index) bool {
	return x.Net.N == y.Net.N && slices.Equal(x.Net.Edges, y.Net.Edges) && slices.Equal(x.Rank, y.Rank) && slices.Equal(x.Arcs, y.Arcs) &&
		slices.EqualFunc(x.Up, y.Up, slices.Equal) && slices.EqualFunc(x.Down, y.Down, slices.Equal)
}

func checkSame(t *testing.T, got, want api.Index) {
	t.Helper()
	if !same(got, want) {
		t.Fatalf("%v, not\n%v", got, want)
	}
}

func isNothing(x api.Index) bool { return same(x, api.Index{}) }

func checkEncode(t *testing.T, x api.Index, want []byte) {
	t.Helper()
	if got := index.Encode(x); string(got) != string(want) {
		t.Errorf("%v:\n%x, not\n%x", x, got, want)
	}
}

// checkRead holds Decode of any bytes to T5: they are refused, with nothing beside that, or read as an index that is allowed and is written as just these bytes. It tells whether they are read.
func checkRead(t *testing.T, b []byte) bool {
	t.Helper()
	x, e := index.Decode(b)
	if e != api.OK {
		if e != api.BadIndex || !isNothing(x) {
			t.Errorf("%.400x: %d beside %v", b, e, x)
		}
		return false
	}
	if !hier.Check(x) || string(index.Encode(x)) != string(b) || string(plainly(x).bytes) != string(b) {
		t.Errorf("%x is read as %v", b, x)
	}
	return true
}

func checkRefused(t *testing.T, b []byte) {
	t.Helper()
	if checkRead(t, b) {
		t.Errorf("%.400x is read", b)
	}
}

// checkBack holds an index that is allowed to T4.
func checkBack(t *testing.T, x api.Index) {
	t.Helper()
	if !hier.Check(x) {
		t.Fatalf("%v is not allowed", x)
	}
	b := index.Encode(x)
	if string(b) != string(plainly(x).bytes) {
		t.Fatalf("%v: %x", x, b)
	}
	y, e := index.Decode(b)
	if e != api.OK {
		t.Fatalf("%v: refused", x)
	}
	checkSame(t, y, x)
	if string(index.Encode(y)) != string(b) {
		t.Errorf("%v is written anew as other bytes", x)
	}
}

// bare is an index of vertices with these ranks, without edges and arcs.
func bare(rank ...int) api.Index {
	return api.Index{Net: api.Net{N: len(rank)}, Rank: rank, Up: make([][]int, len(rank)), Down: make([][]int, len(rank))}
}

// port is a hierarchy of edges and a shortcut: 0 went, 1 and 2 stay.
func port() api.Index {
	return api.Index{
		Net: api.Net{N: 3, Edges: []api.Edge{
			{From: 2, To: 0, Mode: 0, Cost: 0x01020304},
			{From: 0, To: 1, Mode: 0, Cost: api.MaxCost},
			{From: 1, To: 1, Mode: 3, Cost: 0},
			{From: 2, To: 2, Mode: 4, Cost: 7},
			{From: 2, To: 0, Mode: 0, Cost: 0x01020305},
		}},
		Rank: []int{0, -1, -1},
		Arcs: []api.Arc{
			{From: 0, To: 1, Mode: 0, Cost: api.MaxCost, Edge: 1},
			{From: 1, To: 1, Mode: 3, Cost: 0, Edge: 2},
			{From: 2, To: 0, Mode: 0, Cost: 0x01020304, Edge: 0},
			{From: 2, To: 2, Mode: 4, Cost: 7, Edge: 3},
			{From: 2, To: 1, Mode: 0, Cost: 0x81020303, Edge: -1, A: 2, B: 0},
		},
		Up:   [][]int{{0}, {1}, {4, 3}},
		Down: [][]int{{2}, {}, {}},
	}
}

// portBytes are the port's, by hand.
func portBytes() []byte {
	return fromHex(
		"4d 49 58 31", // MIX1
		"00000003 00000005",
		"00000002 00000000 00000000 01020304",
		"00000000 00000001 00000000 7fffffff",
		"00000001 00000001 00000003 00000000",
		"00000002 00000002 00000004 00000007",
		"00000002 00000000 00000000 01020305",
		"00000001 00000000 00000000", // Rank and 1
		"00000005",
		"00000000 00000001 00000000 000000007fffffff 00000002 00000000 00000000",
		"00000001 00000001 00000003 0000000000000000 00000003 00000000 00000000",
		"00000002 00000000 00000000 0000000001020304 00000001 00000000 00000000",
		"00000002 00000002 00000004 0000000000000007 00000004 00000000 00000000",
		"00000002 00000001 00000000 0000000081020303 00000000 00000002 00000000",
		"00000001 00000000", "00000001 00000001", "00000002 00000004 00000003", // Up
		"00000001 00000002", "00000000", "00000000", // Down
	)
}

// round is a vertex with a loop; arc i of so many stands for i + 1 times round.
func round(cost, length int) api.Index {
	x := bare(0)
	x.Net.Edges = []api.Edge{{Cost: cost}}
	x.Arcs = []api.Arc{{Cost: cost}}
	for i := 1; i < length; i++ {
		x.Arcs = append(x.Arcs, api.Arc{Cost: cost * (i + 1), Edge: -1, A: i - 1})
	}
	return x
}

// largest is an index with as many vertices, edges and arcs as there may be; each arc is in a list.
func largest() api.Index {
	x := bare(make([]int, api.MaxNodes)...)
	for v := range api.MaxNodes {
		x.Rank[v] = api.MaxNodes - 1 - v
	}
	for i := range api.MaxEdges {
		x.Net.Edges = append(x.Net.Edges, api.Edge{From: i % 60, To: i * 7 % 60, Mode: i % 5, Cost: api.MaxCost - i})
	}
	for i := range 300000 {
		edge := (i + i/400) % api.MaxEdges
		e := x.Net.Edges[edge]
		x.Arcs = append(x.Arcs, api.Arc{From: e.From, To: e.To, Mode: e.Mode, Cost: e.Cost, Edge: edge})
		if x.Rank[e.From] > x.Rank[e.To] {
			x.Down[e.To] = append(x.Down[e.To], i)
		} else {
			x.Up[e.From] = append(x.Up[e.From], i)
		}
	}
	return x
}
