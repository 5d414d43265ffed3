package match

import (
	"testing"

	"milestone/api"
)

// manyTimes is repeats within repeats, so many, around a row and a loop.
func manyTimes(deep int) api.Node {
	set := func(modes int) api.Node { return api.Node{Kind: api.KSet, Set: modes} }
	loop := api.Node{Kind: api.KPlus, L: []api.Node{set(2)}}
	n := api.Node{Kind: api.KJoin, L: []api.Node{set(1), loop}}
	for i := range deep {
		n = api.Node{Kind: api.KRepeat, Lo: i % 3, Hi: 3, L: []api.Node{n}}
		if i%2 == 1 {
			n = api.Node{Kind: api.KUnion, L: []api.Node{n, set(4)}}
		}
	}
	return n
}

// By states and by parts each word is taken alike, so that it does not tell which of them was chosen.
func TestP501ByStatesAsByParts(t *testing.T) {
	const modes = 3
	for deep := range 5 {
		n := manyTimes(deep)
		m := newMachine(n)
		in := 0
		for long, count := 0, 1; long <= 7; long, count = long+1, count*modes {
			for number := range count {
				word := make([]int, long)
				for i := range word {
					word[i] = number % modes
					number /= modes
				}
				if m.takes(word) != (parted{n}).takes(word) {
					t.Fatalf("%d deep, %v: by states %v", deep, word, m.takes(word))
				}
				if m.takes(word) {
					in++
				}
			}
		}
		if in == 0 {
			t.Errorf("%d deep: no word is taken", deep)
		}
	}
}

// A machine is made only where it is not too large: of repeats within repeats, if the word is long enough for it.
func TestP501RoomForStates(t *testing.T) {
	for _, one := range []struct {
		deep, modes int
		fits        bool
	}{{0, 0, true}, {1, 60, true}, {4, 60, true}, {9, 1000, true}, {4, 1 << 31, true}, {30, 60, false}, {30, 1 << 31, false}, {500, 60, false}} {
		n := manyTimes(one.deep)
		left := roomLeft(n, room(n, one.modes))
		if (left >= 0) != one.fits {
			t.Errorf("%d deep, %d modes: %d left", one.deep, one.modes, left)
		}
		if one.fits && len(newMachine(n).states) > 2*room(n, one.modes) {
			t.Errorf("%d deep, %d modes: %d states", one.deep, one.modes, len(newMachine(n).states))
		}
	}
}
