package dfa_test

import (
	"math"
	"slices"
	"strings"
	"testing"

	"milestone/api"
	"milestone/dfa"
)

// far are numbers that are no states and no modes.
var far = []int{-1, -2, 2000, 2001, 1 << 31, 1 << 32, 1<<32 + 1, -1 << 31, -1 << 32, math.MaxInt, math.MinInt}

// machine is one of at most ten states: of each, where each mode leads, and a ! if it accepts.
func machine(rows string) api.Dfa {
	var d api.Dfa
	for _, digits := range strings.Fields(rows) {
		var row [api.Modes]int
		for mode := range row {
			row[mode] = int(digits[mode] - '0')
		}
		d.Next = append(d.Next, row)
		d.Accept = append(d.Accept, strings.HasSuffix(digits, "!"))
	}
	return d
}

// word is a word by its signs.
func word(signs string) []int {
	var modes []int
	for _, sign := range strings.Trim(signs, "-") {
		modes = append(modes, strings.IndexRune("wbcft", sign))
	}
	return modes
}

func isSame(d, e api.Dfa) bool {
	return slices.Equal(d.Next, e.Next) && slices.Equal(d.Accept, e.Accept)
}

func checkIs(t *testing.T, what string, d api.Dfa, want bool) {
	t.Helper()
	if dfa.Check(d) != want {
		t.Errorf("Check of %s: not %v", what, want)
	}
}

// sized is a machine of so many Next and Accept, all of whose modes lead to 0.
func sized(next, accept int) api.Dfa {
	return api.Dfa{Next: make([][api.Modes]int, next), Accept: make([]bool, accept)}
}

func TestP701CheckOfSizes(t *testing.T) {
	checkIs(t, "nothing", api.Dfa{}, false)
	checkIs(t, "empty lists", sized(0, 0), false)
	for _, many := range []int{1, 2, 3, 200, 201, 1000, 1999, 2000} {
		checkIs(t, "as many", sized(many, many), true)
		checkIs(t, "one less that accept", sized(many, many-1), false)
		checkIs(t, "one more that accept", sized(many, many+1), false)
		checkIs(t, "none that accept", api.Dfa{Next: make([][api.Modes]int, many)}, false)
		checkIs(t, "no Next", api.Dfa{Accept: make([]bool, many)}, false)
	}
	for _, many := range []int{2001, 2002, 100000} {
		checkIs(t, "too many", sized(many, many), false)
		checkIs(t, "too many Next", sized(many, 2000), false)
		checkIs(t, "too many Accept", sized(2000, many), false)
	}
}

func TestP701CheckOfEachOfNext(t *testing.T) {
	for _, many := range []int{1, 2, 3, 17, 2000} {
		d := sized(many, many)
		for i := range many {
			d.Next[i] = [api.Modes]int{many - 1, 0, many / 2, many - 1, i}
			d.Accept[i] = i%3 == 0
		}
		checkIs(t, "one that leads on", d, true)
		for _, at := range []int{0, 1, many / 2, many - 1} {
			at = min(at, many-1)
			for mode := range api.Modes {
				before := d.Next[at][mode]
				for _, to := range append([]int{many, many + 1, -many}, far...) {
					d.Next[at][mode] = to
					checkIs(t, "one that leads out", d, 0 <= to && to < many)
				}
				for _, to := range []int{0, many - 1} {
					d.Next[at][mode] = to
					checkIs(t, "one that leads to the first, the last", d, true)
				}
				d.Next[at][mode] = before
			}
		}
	}
}

func checkGo(t *testing.T, d api.Dfa, state int, word []int, want int) {
	t.Helper()
	if got := dfa.Go(d, state, word); got != want {
		t.Errorf("Go from %d by %v: %d, not %d", state, word, got, want)
	}
}

// turns has a round by w (0, 1, 2), one by b (0, 2, 1), and 3, which all else leads to.
const turns = "12333 20333! 01333 33333"

func TestP701GoByNoMode(t *testing.T) {
	for state := range 4 {
		checkGo(t, machine(turns), state, nil, state)
		checkGo(t, machine(turns), state, []int{}, state)
	}
	checkGo(t, sized(2000, 2000), 1999, nil, 1999)
}

func TestP701GoFromAStateThatIsNone(t *testing.T) {
	for _, d := range []api.Dfa{machine(turns), machine("00000"), sized(2000, 2000)} {
		many := len(d.Next)
		for _, state := range append([]int{many, many + 1, -many}, far...) {
			if state >= 0 && state < many {
				continue
			}
			for _, row := range [][]int{nil, {}, {0}, {4, 3}, {5}, {-1}} {
				checkGo(t, d, state, row, -1)
			}
		}
	}
}

func TestP701GoByModes(t *testing.T) {
	d := machine("12345 23456 34567 45678 56789 67890 78901 89012 90123 01234")
	for state := range 10 {
		for mode := range api.Modes {
			checkGo(t, d, state, []int{mode}, (state+mode+1)%10)
			checkGo(t, d, state, []int{mode, mode}, (state+2*mode+2)%10)
			checkGo(t, d, state, []int{mode, 4, 0}, (state+mode+7)%10)
		}
	}
	for _, one := range []struct {
		state int
		signs string
		want  int
	}{{0, "w", 1}, {0, "b", 2}, {0, "c", 3}, {0, "ww", 2}, {0, "www", 0}, {0, "wb", 0}, {0, "bbb", 0}, {1, "b", 0}, {2, "w", 0}, {2, "bw", 2}, {0, "wwwww", 2}, {0, "wwtww", 3}, {3, "wbcft", 3}} {
		checkGo(t, machine(turns), one.state, word(one.signs), one.want)
	}
}

// noModes are numbers that are no modes, some of which are modes if their higher bits are lost.
func noModes() []int {
	return append([]int{5, 6, 7, 8, 31, 63, 64, 65, 68, 255, 256, 257, 65536, -3, -5, -64}, far...)
}

func TestP701GoByWhatIsNoMode(t *testing.T) {
	for _, d := range []api.Dfa{machine("00000!"), machine(turns), sized(2000, 2000)} {
		for _, no := range noModes() {
			for _, row := range [][]int{{no}, {no, 0}, {0, no}, {0, 1, no, 3, 4}, {no, no}, {4, 4, 4, no}, {no, 4, 4, 4}} {
				for _, state := range []int{0, len(d.Next) - 1} {
					checkGo(t, d, state, row, -1)
				}
				if dfa.Run(d, row) {
					t.Errorf("Run by %v", row)
				}
			}
		}
	}
}

// Where it comes to is told by state and word alone, not by which states accept.
func TestP701GoAsksNotWhetherOneAccepts(t *testing.T) {
	for _, rows := range []string{"10000 01111", "10000! 01111", "10000 01111!", "10000! 01111!"} {
		checkGo(t, machine(rows), 0, word("w"), 1)
		checkGo(t, machine(rows), 0, word("wc"), 1)
		checkGo(t, machine(rows), 1, word("w"), 0)
	}
}

// checkRuns takes words by their signs, with spaces between; a dash is the word of none.
func checkRuns(t *testing.T, rows, in, out string) {
	t.Helper()
	for _, signs := range strings.Fields(in) {
		if !dfa.Run(machine(rows), word(signs)) {
			t.Errorf("%s: %s is not taken", rows, signs)
		}
	}
	for _, signs := range strings.Fields(out) {
		if dfa.Run(machine(rows), word(signs)) {
			t.Errorf("%s: %s is taken", rows, signs)
		}
	}
}

func TestP701Run(t *testing.T) {
	checkRuns(t, "00000!", "- w b c f t wbcft tttt", "")
	checkRuns(t, "00000", "", "- w b c f t wbcft tttt")
	checkRuns(t, "11111! 11111", "-", "w b c f t ww wbcft")
	checkRuns(t, "11111 11111!", "w b c f t ww wbcft", "-")
	checkRuns(t, "11111 00000!", "w t wbc", "- ww wbcf")
	checkRuns(t, turns, "w bb wwww wbw wwb bwbwbb", "- b ww www wb wc cw bwbw wwwwt bbt wcw")
	checkRuns(t, "12222! 22122 22222!", "- b wb wcb wccb bt", "w wc wcc wcccc")
}

func TestP701RunOfLongWords(t *testing.T) {
	const long = 100000
	for more := range 6 {
		if dfa.Run(machine(turns), make([]int, 3*long+more)) != (more%3 == 1) {
			t.Errorf("%d modes", 3*long+more)
		}
	}
	checkGo(t, machine(turns), 2, make([]int, 3*long), 2)
}

// The chapter's example.
func TestP701RunOfOneState(t *testing.T) {
	for _, row := range everyWord(4) {
		if !dfa.Run(machine("00000!"), row) || dfa.Run(machine("00000"), row) {
			t.Errorf("%v", row)
		}
	}
}
