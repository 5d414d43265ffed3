package index_test

import (
	"math"
	"slices"
	"testing"

	"milestone/api"
	"milestone/hier"
	"milestone/index"
)

// samples are indexes that are allowed, small and larger ones.
func samples() []api.Index {
	d := dice(12021)
	all := []api.Index{port(), bare(0), bare(-1), bare(1, 0, -1), round(9, 5), round(api.MaxCost, 20)}
	for i := range 12 {
		all = append(all, hier.Build(d.anyNet(1+i/2, d.below(2+2*i))))
	}
	return all
}

func checkDecode(t *testing.T, b []byte, want api.Index) {
	t.Helper()
	got, e := index.Decode(b)
	if e != api.OK {
		t.Fatalf("%x: %d", b, e)
	}
	checkSame(t, got, want)
}

func TestP1201DecodeOfBytesByHand(t *testing.T) {
	checkDecode(t, portBytes(), port())
	checkDecode(t, fromHex("4d495831 00000001 00000000 00000001 00000000 00000000 00000000"), bare(0))
	checkDecode(t, fromHex("4d495831 00000001 00000000 00000000 00000000 00000000 00000000"), bare(-1))
}

func TestP1201DecodeOfNoBytes(t *testing.T) {
	checkRefused(t, nil)
	checkRefused(t, []byte{})
	checkRefused(t, portBytes()[:0])
}

// Cut off anywhere, whether what was cut off lies in the spare room or not.
func TestP1201DecodeOfBytesCutOff(t *testing.T) {
	for _, x := range samples() {
		b := plainly(x).bytes
		for i := range b {
			checkRefused(t, b[:i])
			checkRefused(t, slices.Clone(b[:i]))
			checkRefused(t, b[len(b)-i:]) // in front
		}
	}
}

// Some bytes, or some numbers, are missing in the middle.
func TestP1201DecodeOfBytesCutOut(t *testing.T) {
	for _, x := range samples() {
		b := plainly(x).bytes
		for i := range b {
			for _, many := range []int{1, 2, 3, 4, 8, 16, 32} {
				checkRead(t, slices.Delete(slices.Clone(b), i, min(i+many, len(b))))
			}
		}
	}
}

func TestP1201DecodeOfBytesBehind(t *testing.T) {
	for _, x := range samples() {
		b := plainly(x).bytes
		for many := 1; many < 70; many++ {
			checkRefused(t, slices.Concat(b, make([]byte, many)))
			checkRefused(t, slices.Concat(b, slices.Repeat([]byte{255}, many)))
		}
		checkRefused(t, slices.Concat(b, b))
		checkRefused(t, slices.Concat(b, []byte("MIX1")))
		checkRefused(t, slices.Concat(b, []byte{'\n'}))
	}
}

func TestP1201DecodeOfAnotherBeginning(t *testing.T) {
	for _, x := range samples() {
		b := plainly(x).bytes
		for at := range 4 {
			for other := range 256 {
				if c := slices.Clone(b); c[at] != byte(other) {
					c[at] = byte(other)
					checkRefused(t, c)
				}
			}
		}
		for _, begin := range []string{"", "MIX", "mix1", "MIX2", "MIX0", "1XIM", "MIX11", " MIX1", "MIX1 ", "MIX1MIX1", "\x00MIX1", "\xef\xbb\xbfMIX1"} {
			checkRefused(t, slices.Concat([]byte(begin), b[4:]))
		}
	}
	for _, all := range []string{"M", "MIX", "MIX1", "MIX2", "MIX1\x00", "MIX1\x00\x00\x00\x01", "net 1\n"} {
		checkRefused(t, []byte(all))
	}
}

func TestP1201DecodeOfOtherCounts(t *testing.T) {
	for _, x := range samples() {
		p := plainly(x)
		if string(p.bytes) != string(index.Encode(x)) {
			t.Fatal("not allowed")
		}
		for _, at := range p.counts {
			behind := (len(p.bytes) - at - 4) / 4 // so many numbers
			for number := range uint32(behind + 70) {
				read := checkRead(t, put(p.bytes, at, number))
				if read && int(number) > behind {
					t.Errorf("%d is more than what stands behind %d", number, at)
				}
			}
			for _, number := range []uint32{1<<8 - 1, 1 << 8, 1<<16 - 1, 1 << 16, 300000, 300001, 1 << 24, 1<<31 - 1, 1 << 31, 1<<31 + 1, 1<<32 - 2, 1<<32 - 1} {
				if number > uint32(behind) {
					checkRefused(t, put(p.bytes, at, number))
				}
			}
		}
	}
}

// Ended by a count that is greater than all that there may be, whatever stands ahead of it, and with bytes behind it.
func TestP1201DecodeOfCountsBeyondTheBytes(t *testing.T) {
	p := plainly(port())
	for _, number := range []uint32{1, 1 << 16, 1 << 28, 1<<30 - 1, 1 << 30, 1<<31 - 1, 1 << 31, 1<<32 - 1} {
		for _, at := range p.counts {
			b := put(p.bytes, at, number)
			checkRefused(t, b[:at+4])
			if number > 400 {
				for _, behind := range []int{1, 4, 16, 32, 1000, 100000} {
					checkRefused(t, slices.Concat(b[:at+4], make([]byte, behind)))
				}
			}
		}
	}
	const most = "ffffffff"
	checkRefused(t, fromHex("4d495831", most))
	checkRefused(t, fromHex("4d495831", most, most))
	checkRefused(t, fromHex("4d495831", most, most, most, most, most, most, most))
	checkRefused(t, fromHex("4d495831", "00000001", most, "00000001 00000000 00000000 00000000"))
	checkRefused(t, fromHex("4d495831", most, "00000000 00000001 00000000 00000000 00000000"))
	checkRefused(t, fromHex("4d495831", "00000001 00000000 00000001", most, "00000000 00000000"))
	checkRefused(t, fromHex("4d495831", "00000001 00000000 00000001 00000000", most, "00000000"))
	checkRefused(t, fromHex("4d495831", "00000001 00000000 00000001 00000000 00000000", most))
}

// No bound is as great as these, not even that of the upper half of an arc's cost; the lower half is one number alone.
func TestP1201DecodeOfTheGreatestNumbers(t *testing.T) {
	for _, x := range samples() {
		b := plainly(x).bytes
		for at := 4; at < len(b); at += 4 {
			for _, number := range []uint32{math.MaxUint32, math.MaxUint32 - 1, 1 << 31} {
				if c := put(b, at, number); string(c) != string(b) {
					checkRefused(t, c)
				}
			}
			for _, number := range []uint32{0, 1, 2, 5, 60, 61, 62, 400, 401, 1000, 300000, 300001, 1<<10 + 1, 1 << 16, 1<<24 - 1, 1<<31 - 2, 1<<31 - 1, 1<<31 + 1} {
				checkRead(t, put(b, at, number))
			}
		}
	}
}

// Costs of eight bytes that are beyond all bounds, and such as are right in their lower half alone.
func TestP1201DecodeOfArcsCosts(t *testing.T) {
	p := plainly(port())
	first := p.counts[2] + 4
	for i, a := range port().Arcs {
		at := first + 32*i + 12
		for _, high := range []uint32{1, 2, 1 << 10, 1<<10 + 1, 1<<31 - 1, 1 << 31, 1<<32 - 1} {
			checkRefused(t, put(p.bytes, at, high))
			checkRefused(t, put(put(p.bytes, at, high), at+4, 0))
			checkRefused(t, put(put(p.bytes, at, high), at+4, 1<<32-1))
			checkRefused(t, put(put(p.bytes, at, uint32(a.Cost)), at+4, high))
		}
		checkRefused(t, put(put(p.bytes, at, uint32(a.Cost)), at+4, uint32(a.Cost+1)))
		checkRefused(t, put(p.bytes, at+4, uint32(a.Cost+1)))
		checkRefused(t, put(p.bytes, at+4, uint32(a.Cost-1)))
	}
}

// Rank and Edge are one less than they are written: 0 is -1.
func TestP1201DecodeOfOneMore(t *testing.T) {
	check := func(b []byte, x api.Index) {
		t.Helper()
		if hier.Check(x) {
			checkDecode(t, b, x)
		} else {
			checkRefused(t, b)
		}
	}
	ranks := plainly(port()).counts[2] - 12
	arcs := ranks + 16
	for number := range 70 {
		for v := range 3 {
			x := port()
			x.Rank[v] = number - 1
			check(put(portBytes(), ranks+4*v, uint32(number)), x)
		}
		for i := range 5 {
			x := port()
			x.Arcs[i].Edge = number - 1
			check(put(portBytes(), arcs+32*i+20, uint32(number)), x)
		}
	}
}

// tally counts how often bytes were read and refused.
type tally struct{ read, refused int }

func (y *tally) check(t *testing.T, b []byte) {
	t.Helper()
	if checkRead(t, b) {
		y.read++
	} else {
		y.refused++
	}
}

// enough tells of a tally that says too little of one side.
func (y *tally) enough(t *testing.T) {
	t.Helper()
	if y.read < 1000 || y.refused < 1000 {
		t.Errorf("%d read, %d refused", y.read, y.refused)
	}
}

func TestP1201DecodeOfEachByteTurned(t *testing.T) {
	var tallied tally
	for _, x := range samples()[:12] {
		b := plainly(x).bytes
		for at, was := range b {
			for other := range 256 {
				b[at] = byte(other)
				tallied.check(t, b)
			}
			b[at] = was
		}
	}
	tallied.enough(t)
}

func TestP1201DecodeOfSeveralBytesTurned(t *testing.T) {
	d := dice(12022)
	var tallied tally
	all := samples()
	for range 200000 {
		b := plainly(all[d.below(len(all))]).bytes
		for range 1 + d.below(3) {
			at := d.below(len(b))
			switch d.below(4) {
			case 0:
				b[at] = byte(d.below(256))
			case 1:
				b[at] ^= 1 << d.below(8)
			case 2: // most numbers are small
				b[at|3] = byte(d.below(6))
			case 3: // two numbers change places
				at, other := at&^3, d.below(len(b))&^3
				for i := range 4 {
					b[at+i], b[other+i] = b[other+i], b[at+i]
				}
			}
		}
		tallied.check(t, b)
	}
	tallied.enough(t)
}

// places are all numbers of an index but N.
func places(x *api.Index) []*int {
	var all []*int
	for i := range x.Net.Edges {
		e := &x.Net.Edges[i]
		all = append(all, &e.From, &e.To, &e.Mode, &e.Cost)
	}
	for i := range x.Rank {
		all = append(all, &x.Rank[i])
	}
	for i := range x.Arcs {
		a := &x.Arcs[i]
		all = append(all, &a.From, &a.To, &a.Mode, &a.Cost, &a.Edge, &a.A, &a.B)
	}
	for _, list := range slices.Concat(x.Up, x.Down) {
		for i := range list {
			all = append(all, &list[i])
		}
	}
	return all
}

// Each number by others that four bytes hold: read just where Check allows it, as that index.
func TestP1201DecodeOfWhatCheckRefuses(t *testing.T) {
	allowed, refused := 0, 0
	for _, x := range samples() {
		for _, place := range places(&x) {
			was := *place
			for _, number := range []int{0, 1, 2, 3, 4, 5, 6, 7, 59, 60, 400, was + 1, max(was-1, 0), was + 256, 1<<31 - 1, 1 << 31, 1<<32 - 2} {
				*place = number
				b := plainly(x).bytes
				if hier.Check(x) {
					checkDecode(t, b, x)
					allowed++
				} else {
					checkRefused(t, b)
					checkEncode(t, x, nil) // P8: it has no bytes; no promise says so
					refused++
				}
			}
			*place = was
		}
	}
	if allowed < 1000 || refused < 1000 {
		t.Errorf("%d allowed, %d refused", allowed, refused)
	}
}

// Lists that are there, but as none may be.
func TestP1201DecodeOfListsThatCheckRefuses(t *testing.T) {
	for _, change := range []func(x *api.Index){
		func(x *api.Index) { x.Up[2] = []int{4, 3, 4} },
		func(x *api.Index) { x.Up[2] = []int{2} },
		func(x *api.Index) { x.Up[0] = []int{1} },
		func(x *api.Index) { x.Up[0] = []int{5} },
		func(x *api.Index) { x.Down[0] = []int{2, 2} },
		func(x *api.Index) { x.Down[1] = []int{4} },
		func(x *api.Index) { x.Down[0] = []int{4} },
		func(x *api.Index) { x.Rank[1] = 0 },
		func(x *api.Index) { x.Rank[1] = 2 },
		func(x *api.Index) { x.Rank[1] = 1 },
		func(x *api.Index) { x.Arcs = x.Arcs[1:] },
		func(x *api.Index) { x.Arcs[4], x.Arcs[2] = x.Arcs[2], x.Arcs[4] },
		func(x *api.Index) { x.Arcs = nil },
		func(x *api.Index) { x.Net.Edges = x.Net.Edges[1:] },
		func(x *api.Index) { x.Net.Edges = x.Net.Edges[:3] },
		func(x *api.Index) { x.Net.Edges = nil },
		func(x *api.Index) { x.Net.Edges[4].Mode = 5 },
		func(x *api.Index) { x.Net.Edges[4].To = 3 },
		func(x *api.Index) { x.Net.Edges[4].Cost = api.MaxCost + 1 },
		func(x *api.Index) { x.Rank = x.Rank[1:] },
		func(x *api.Index) { x.Rank = append(x.Rank, -1) },
		func(x *api.Index) { x.Up = append(x.Up, nil) },
		func(x *api.Index) { x.Down = append(x.Down, nil) },
		func(x *api.Index) { x.Down = x.Down[:2] },
		func(x *api.Index) { x.Net.N = 2 },
		func(x *api.Index) { x.Net.N = 4 },
	} {
		x := port()
		change(&x)
		checkRefused(t, plainly(x).bytes)
	}
}

func TestP1201DecodeOfTooMany(t *testing.T) {
	checkRefused(t, plainly(api.Index{}).bytes)
	checkRefused(t, plainly(bare(make([]int, 61)...)).bytes)
	many := slices.Repeat([]int{-1}, 61)
	checkBack(t, bare(many[:60]...))
	checkRefused(t, plainly(bare(many...)).bytes)
	x := port()
	x.Net.Edges = append(x.Net.Edges, make([]api.Edge, 395)...)
	checkBack(t, x)
	x.Net.Edges = append(x.Net.Edges, api.Edge{})
	checkRefused(t, plainly(x).bytes)
	x = round(1, 1000)
	checkBack(t, x)
	checkRefused(t, plainly(round(1, 1001)).bytes)
	x = largest()
	x.Arcs = append(x.Arcs, x.Arcs[0])
	checkRefused(t, plainly(x).bytes)
}
