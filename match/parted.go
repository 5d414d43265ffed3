package match

import (
	"iter"
	"math/bits"
	"slices"

	"milestone/api"
)

// parted takes words by trying, of each part of an expression once, between which two places of the word it may stand. It is for repeats within repeats, of which a machine would have too many states.
type parted struct {
	node api.Node
}

func (p parted) takes(word []int) bool {
	return places(word).of(p.node).has(0, len(word))
}

// places are those of a word: ahead of each of its modes, and its end.
type places []int

// table tells of each two places whether a part may stand between them: bit j of row i is set, if it may stand from i to j.
type table struct {
	wide  int // numbers a row
	cells []uint64
}

func (t table) row(i int) []uint64 {
	return t.cells[i*t.wide : (i+1)*t.wide]
}

func (t table) put(i, j int) {
	t.row(i)[j/64] |= 1 << (j % 64)
}

func (t table) has(i, j int) bool {
	return t.row(i)[j/64]>>(j%64)&1 == 1
}

// reach lets a part that may stand from i to j end where a part that stands from j may.
func (t table) reach(i, j int, behind table) {
	from := j / 64 // nothing ends ahead of where it stands
	mix(t.row(i)[from:], behind.row(j)[from:])
}

// ends are the places whose bits are set in a row, rising.
func ends(row []uint64) iter.Seq[int] {
	return func(yield func(int) bool) {
		for k, cell := range row {
			for ; cell != 0; cell &= cell - 1 {
				if !yield(k*64 + bits.TrailingZeros64(cell)) {
					return
				}
			}
		}
	}
}

// mix sets in a row, or in all of a table, what is set in the other.
func mix(into, other []uint64) {
	for k, cell := range other {
		into[k] |= cell
	}
}

// of is the table of n.
func (p places) of(n api.Node) table {
	switch n.Kind {
	case api.KSet:
		return p.modes(n.Set)
	case api.KNone:
		return p.none()
	case api.KJoin:
		t := p.none()
		for _, part := range n.L {
			t = p.join(t, p.of(part))
		}
		return t
	case api.KUnion:
		return p.union(n.L...)
	case api.KStar:
		return p.star(p.of(n.L[0]))
	case api.KPlus:
		once := p.of(n.L[0])
		return p.join(once, p.star(once))
	case api.KMaybe:
		return p.union(api.Node{Kind: api.KNone}, n.L[0])
	case api.KRepeat:
		return p.times(n)
	}
	return p.empty()
}

func (p places) empty() table {
	count := len(p) + 1
	wide := (count + 63) / 64
	return table{wide, make([]uint64, count*wide)}
}

func (p places) none() table {
	t := p.empty()
	for i := range len(p) + 1 {
		t.put(i, i)
	}
	return t
}

func (p places) modes(set int) table {
	t := p.empty()
	for i, mode := range p {
		if set>>mode&1 == 1 {
			t.put(i, i+1)
		}
	}
	return t
}

func (p places) join(a, b table) table {
	t := p.empty()
	for i := range len(p) + 1 {
		for j := range ends(a.row(i)) {
			t.reach(i, j, b)
		}
	}
	return t
}

func (p places) union(parts ...api.Node) table {
	t := p.empty()
	for _, part := range parts {
		mix(t.cells, p.of(part).cells)
	}
	return t
}

// star goes from the last place to the first, as each row is made of those behind it.
func (p places) star(once table) table {
	t := p.empty()
	for i := len(p); i >= 0; i-- {
		t.put(i, i)
		for j := range ends(once.row(i)) {
			if !t.has(i, j) { // else j's row is in this one
				t.reach(i, j, t)
			}
		}
	}
	return t
}

func (p places) times(n api.Node) table {
	once := p.of(n.L[0])
	t := p.none()
	for range n.Lo {
		t = p.join(t, once)
	}
	for range n.Hi - n.Lo {
		more := p.join(t, once)
		mix(more.cells, t.cells)
		if slices.Equal(more.cells, t.cells) { // nor will the next one tell more
			break
		}
		t = more
	}
	return t
}
