package index_test

import (
	"math"
	"slices"
	"testing"

	"milestone/api"
	"milestone/hier"
	"milestone/index"
)

func TestP1DecodeOfAnyBytesWhatever(t *testing.T) {
	d := dice(1)
	for range 50000 {
		checkRead(t, d.anyBytes(200))
		b := append([]byte("MIX1"), d.anyBytes(200)...)
		checkRead(t, b)
		for i := 4; i < len(b); i++ { // numbers that are small, most of them
			if i%4 != 3 && d.below(40) > 0 {
				b[i] = 0
			} else {
				b[i] %= 4
			}
		}
		checkRead(t, b)
	}
	for length := range 300 {
		for _, sign := range []byte{0, 1, 127, 128, 255} {
			checkRead(t, slices.Concat([]byte("MIX1"), slices.Repeat([]byte{sign}, length)))
		}
	}
	for _, sign := range []byte{0, 1, 255} {
		checkRefused(t, slices.Concat([]byte("MIX1"), slices.Repeat([]byte{sign}, 10000000)))
	}
}

// odd are numbers that bounds are held against.
var odd = []int{-3, -2, -1, 0, 1, 2, 3, 59, 60, 61, 400, 300000, 1<<31 - 1, 1 << 31, 1<<32 - 1, 1 << 32, 1 << 42, 1<<42 + 1, -1 << 31, -1 << 32, math.MaxInt, math.MaxInt - 1, math.MinInt}

func (d *dice) anyNumber() int {
	if d.below(8) == 0 {
		return odd[d.below(len(odd))]
	}
	return d.below(4) - 1
}

func (d *dice) anyLists() [][]int {
	var lists [][]int
	for range d.below(4) {
		var row []int
		for range d.below(4) {
			row = append(row, d.anyNumber())
		}
		lists = append(lists, row)
	}
	return lists
}

// anyIndex is any index whatever.
func (d *dice) anyIndex() api.Index {
	x := api.Index{Net: api.Net{N: d.anyNumber()}, Rank: slices.Concat(d.anyLists()...), Up: d.anyLists(), Down: d.anyLists()}
	for range d.below(4) {
		x.Net.Edges = append(x.Net.Edges, api.Edge{From: d.anyNumber(), To: d.anyNumber(), Mode: d.anyNumber(), Cost: d.anyNumber()})
	}
	for range d.below(5) {
		x.Arcs = append(x.Arcs, api.Arc{From: d.anyNumber(), To: d.anyNumber(), Mode: d.anyNumber(), Cost: d.anyNumber(), Edge: d.anyNumber(), A: d.anyNumber(), B: d.anyNumber()})
	}
	return x
}

// Of what Check refuses P8 asks for no more than that Encode ends; that it has no bytes is this program's own.
func TestP1EncodeOfAnyIndexWhatever(t *testing.T) {
	d := dice(11)
	checkEncode(t, api.Index{}, nil)
	for range 50000 {
		x := d.anyIndex()
		checkRead(t, plainly(x).bytes)
		if hier.Check(x) {
			checkBack(t, x)
		} else {
			checkEncode(t, x, nil)
		}
	}
}

// Numbers that four bytes do not hold are not cut to others.
func TestP9EncodeCutsNoNumbers(t *testing.T) {
	x := port()
	for _, place := range append(places(&x), &x.Net.N) {
		was := *place
		for _, more := range []int{1 << 32, -1 << 32, 1 << 40, math.MinInt} {
			*place = was + more
			checkEncode(t, x, nil)
		}
		*place = was
	}
	checkEncode(t, x, portBytes())
}

// roomy is a row with spare room behind it, filled with a sign.
func roomy[T any](row []T, sign T) []T {
	return append(slices.Clone(row), sign, sign, sign)[:len(row)]
}

// whole is a copy of the row and its spare room.
func whole[T any](row []T) []T {
	return slices.Clone(row[:cap(row)])
}

// spoil fills a row and its spare room.
func spoil[T any](row []T, sign T) {
	for i := range row[:cap(row)] {
		row[:cap(row)][i] = sign
	}
}

// spoilIndex fills each list of an index, and its spare room, with a sign.
func spoilIndex(x api.Index, sign int) {
	for _, list := range intLists(x) {
		spoil(list, sign)
	}
	spoil(x.Net.Edges, api.Edge{From: sign, To: sign})
	spoil(x.Arcs, api.Arc{From: sign, To: sign})
	spoil(x.Up, []int{sign})
	spoil(x.Down, []int{sign})
}

// intLists are all lists of numbers of an index.
func intLists(x api.Index) [][]int {
	return slices.Concat([][]int{x.Rank}, x.Up, x.Down)
}

// roomyPort is the port, with spare room behind each list.
func roomyPort() api.Index {
	x := port()
	x.Net.Edges, x.Rank, x.Arcs = roomy(x.Net.Edges, api.Edge{From: 77}), roomy(x.Rank, 78), roomy(x.Arcs, api.Arc{From: 79})
	for v := range x.Up {
		x.Up[v], x.Down[v] = roomy(x.Up[v], 80), roomy(x.Down[v], 81)
	}
	x.Up, x.Down = roomy(x.Up, []int{82}), roomy(x.Down, []int{83})
	return x
}

// wholeIndex is a copy of an index, where spare room is not spare.
func wholeIndex(x api.Index) api.Index {
	y := api.Index{Net: api.Net{N: x.Net.N, Edges: whole(x.Net.Edges)}, Rank: whole(x.Rank), Arcs: whole(x.Arcs), Up: whole(x.Up), Down: whole(x.Down)}
	for _, lists := range [][][]int{y.Up, y.Down} {
		for v := range lists {
			lists[v] = whole(lists[v])
		}
	}
	return y
}

func TestP2TheIndexIsNotChanged(t *testing.T) {
	x := roomyPort()
	before := wholeIndex(x)
	checkEncode(t, x, portBytes()) // and its spare room is not written
	spoil(index.Encode(x), 9)
	checkSame(t, wholeIndex(x), before)
	x.Arcs[4].Cost++ // one that is refused
	before = wholeIndex(x)
	spoil(index.Encode(x), 9)
	checkSame(t, wholeIndex(x), before)
}

func TestP2TheIndexIsNotKept(t *testing.T) {
	x := port()
	b := index.Encode(x)
	spoilIndex(x, 1)
	if string(b) != string(portBytes()) {
		t.Errorf("kept: %x", b)
	}
	checkEncode(t, x, nil)
	checkEncode(t, port(), portBytes())
}

func TestP2TheBytesAreNotChanged(t *testing.T) {
	for _, b := range [][]byte{portBytes(), portBytes()[:200], slices.Concat(portBytes(), []byte{0}), {}, []byte("MIX1"), []byte("MIX2")} {
		b = roomy(b, 77)
		before := whole(b)
		x, _ := index.Decode(b)
		spoilIndex(x, 5)
		if string(whole(b)) != string(before) {
			t.Errorf("changed: %x, not %x", whole(b), before)
		}
	}
}

func TestP2TheBytesAreNotKept(t *testing.T) {
	b := portBytes()
	x, _ := index.Decode(b)
	spoil(b, 1)
	checkSame(t, x, port())
	checkRefused(t, b)
	checkDecode(t, portBytes(), port())
}

// No two lists of one answer share memory, nor spare room: each keeps a sign of its own.
func TestP2ListsOfOneAnswerShareNone(t *testing.T) {
	d := dice(2)
	for range 300 {
		x, e := index.Decode(index.Encode(hier.Build(d.anyNet(1+d.below(20), d.below(60)))))
		if e != api.OK {
			t.Fatal("refused")
		}
		lists := intLists(x)
		for sign, list := range lists {
			spoil(list, sign)
		}
		for sign, list := range lists {
			for _, number := range list[:cap(list)] {
				if number != sign {
					t.Fatalf("list %d has %d", sign, number)
				}
			}
		}
		spoil(x.Up, []int{-7})
		spoil(x.Down, []int{-8})
		for _, list := range x.Up[:cap(x.Up)] {
			if list[0] != -7 {
				t.Fatal("Up and Down share")
			}
		}
	}
}

// What was told may be changed: what is told anew, and what was told beside it, is as it was.
func TestP2WhatIsToldIsNew(t *testing.T) {
	b := index.Encode(port())
	x, _ := index.Decode(b)
	for range 3 {
		other := index.Encode(port())
		spoil(other, 7)
		spoil(append(index.Encode(port()), 7), 7)
		for _, row := range [][]byte{portBytes(), other, portBytes()[:300], nil} {
			y, _ := index.Decode(row)
			spoilIndex(y, 3)
		}
		checkEncode(t, port(), portBytes())
		checkDecode(t, b, port())
	}
	checkSame(t, x, port())
	if string(b) != string(portBytes()) {
		t.Errorf("what was told shares with what was told anew: %x", b)
	}
}

func TestP3TheSameCallsAnswerTheSame(t *testing.T) {
	d := dice(3)
	for range 200 {
		x := hier.Build(d.anyNet(1+d.below(api.MaxNodes), d.below(100)))
		b := index.Encode(x)
		y, _ := index.Decode(b)
		checkRefused(t, nil)
		checkRefused(t, b[:len(b)-1])
		checkEncode(t, port(), portBytes())
		checkEncode(t, x, b)
		checkEncode(t, y, b)
		checkDecode(t, b, x)
		checkDecode(t, slices.Clone(b), y)
	}
}

// P4: beside an error there is nothing, however much was read till then. P5: nor does it change what is read next.
func TestP4NothingBesideAnError(t *testing.T) {
	wrong := slices.Concat(portBytes(), []byte{0})
	for i := range portBytes() {
		for _, b := range [][]byte{wrong, portBytes()[:i], put(portBytes(), min(i, len(portBytes())-4), math.MaxUint32)} {
			x, e := index.Decode(b)
			if e != api.OK && (x.Net.N != 0 || len(x.Net.Edges) != 0 || len(x.Rank) != 0 || len(x.Arcs) != 0 || len(x.Up) != 0 || len(x.Down) != 0) {
				t.Errorf("%x: %d beside %v", b, e, x)
			}
			if e != api.BadIndex {
				t.Errorf("%x: %d", b, e)
			}
		}
		checkDecode(t, portBytes(), port())
	}
}
