package dfa

import (
	"math/bits"
	"slices"
)

// set is some of the states of a machine of many ways, a bit each.
type set []uint64

func newSet(many int) set {
	return make(set, (many+63)/64)
}

func (s set) add(state int) {
	s[state/64] |= 1 << (state % 64)
}

func (s set) has(state int) bool {
	return s[state/64]>>(state%64)&1 == 1
}

func (s set) join(t set) {
	for i, some := range t {
		s[i] |= some
	}
}

// with is both together: s, or what is begun, if there is none yet.
func (s set) with(t set) set {
	if s == nil {
		s = make(set, len(t))
	}
	s.join(t)
	return s
}

// states goes through those of the set.
func (s set) states(yield func(state int) bool) {
	for i, left := range s {
		for ; left != 0; left &= left - 1 {
			if !yield(64*i + bits.TrailingZeros64(left)) {
				return
			}
		}
	}
}

// known is a set that was met, and the state that it is.
type known struct {
	set   set
	state int
}

// compare orders the known by their sets, so that one may be looked for.
func (k known) compare(s set) int {
	return slices.Compare(k.set, s)
}
