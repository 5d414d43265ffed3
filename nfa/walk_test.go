package nfa_test

import (
	"math"
	"slices"
	"strings"
	"testing"

	"milestone/api"
	"milestone/nfa"
)

func checkClose(t *testing.T, n api.Nfa, states, want []int) {
	t.Helper()
	if got := nfa.Close(n, states); !slices.Equal(got, want) {
		t.Errorf("Close of %v: %v, not %v", states, got, want)
	}
}

// far are numbers that are no states and no modes.
var far = []int{-1, -2, 1000, 1001, 1 << 31, 1 << 32, 1<<32 + 1, -1 << 31, -1 << 32, math.MaxInt, math.MinInt}

// paths has a chain (7, 3, 5, 0), a round (2, 4, 6), which leads to 5, a state that leads to itself (1), and one alone (8).
func paths() api.Nfa {
	return api.Nfa{N: 9, Start: 7, End: 0, Steps: []api.Step{{From: 0, To: 8, Set: 31}, {From: 8, To: 1, Set: 31}}, Free: [][2]int{{5, 0}, {3, 5}, {7, 3}, {2, 4}, {4, 6}, {6, 2}, {6, 5}, {1, 1}}}
}

func TestP601CloseOfNone(t *testing.T) {
	checkClose(t, paths(), nil, nil)
	checkClose(t, paths(), []int{}, nil)
	checkClose(t, paths(), far, nil)
	checkClose(t, paths(), []int{-1, 9, 10}, nil)
	checkClose(t, api.Nfa{N: 1}, nil, nil)
}

func TestP601CloseAlongAChain(t *testing.T) {
	checkClose(t, paths(), []int{0}, []int{0})
	checkClose(t, paths(), []int{5}, []int{0, 5})
	checkClose(t, paths(), []int{3}, []int{0, 3, 5})
	checkClose(t, paths(), []int{7}, []int{0, 3, 5, 7})
	checkClose(t, paths(), []int{8}, []int{8})
	long := api.Nfa{N: 1000}
	for s := range 999 {
		long.Free = append(long.Free, [2]int{s, s + 1})
	}
	var all []int
	for s := range 1000 {
		all = append(all, s)
	}
	for _, s := range []int{0, 1, 500, 998, 999} {
		checkClose(t, long, []int{s}, all[s:])
	}
	slices.Reverse(long.Free)
	checkClose(t, long, []int{0}, all)
	for i, f := range long.Free {
		long.Free[i] = [2]int{f[1], f[0]}
	}
	checkClose(t, long, []int{999}, all)
	checkClose(t, long, []int{40}, all[:41])
	checkClose(t, long, all, all)
}

func TestP601CloseAlongRounds(t *testing.T) {
	for _, s := range []int{2, 4, 6} {
		checkClose(t, paths(), []int{s}, []int{0, 2, 4, 5, 6})
	}
	checkClose(t, paths(), []int{1}, []int{1})
	checkClose(t, api.Nfa{N: 2, Free: [][2]int{{0, 1}, {1, 0}, {0, 1}, {0, 0}}}, []int{1}, []int{0, 1})
}

func TestP601CloseOfSeveral(t *testing.T) {
	checkClose(t, paths(), []int{8, 1}, []int{1, 8})
	checkClose(t, paths(), []int{8, 3, 1}, []int{0, 1, 3, 5, 8})
	checkClose(t, paths(), []int{7, 2}, []int{0, 2, 3, 4, 5, 6, 7})
	checkClose(t, paths(), []int{8, 7, 6, 5, 4, 3, 2, 1, 0}, []int{0, 1, 2, 3, 4, 5, 6, 7, 8})
}

// A state that is said twice, or met again, is told once; a number that is none is not told, and hides no other.
func TestP601CloseTellsNoneTwice(t *testing.T) {
	checkClose(t, paths(), []int{8, 8}, []int{8})
	checkClose(t, paths(), []int{8, 1, 8, 1, 1}, []int{1, 8})
	checkClose(t, paths(), []int{0, 5, 3, 7, 7, 5}, []int{0, 3, 5, 7})
	checkClose(t, paths(), []int{-1, 8, 9, -9, 1, 1000}, []int{1, 8})
	checkClose(t, paths(), append(slices.Clone(far), 7), []int{0, 3, 5, 7})
	checkClose(t, paths(), append([]int{7}, far...), []int{0, 3, 5, 7})
	checkClose(t, paths(), slices.Repeat([]int{3, -1, 8}, 5000), []int{0, 3, 5, 8})
	twice := paths()
	twice.Free = append(twice.Free, twice.Free...)
	checkClose(t, twice, []int{7, 2}, []int{0, 2, 3, 4, 5, 6, 7})
}

// Steps lead nowhere without a mode.
func TestP601CloseGoesByFreeAlone(t *testing.T) {
	n := api.Nfa{N: 3, Steps: []api.Step{{From: 0, To: 1, Set: 31}, {From: 1, To: 2, Set: 31}}}
	for s := range 3 {
		checkClose(t, n, []int{s}, []int{s})
	}
}

// checkRuns takes words by their signs, with spaces between; a dash is the word of none.
func checkRuns(t *testing.T, n api.Nfa, in, out string) {
	t.Helper()
	for _, signs := range strings.Fields(in) {
		if !nfa.Run(n, word(signs)) {
			t.Errorf("%s is not taken", signs)
		}
	}
	for _, signs := range strings.Fields(out) {
		if nfa.Run(n, word(signs)) {
			t.Errorf("%s is taken", signs)
		}
	}
}

// word is a word by its signs.
func word(signs string) []int {
	var modes []int
	for _, sign := range strings.Trim(signs, "-") {
		modes = append(modes, strings.IndexRune("wbcft", sign))
	}
	return modes
}

func TestP601RunOfNoMode(t *testing.T) {
	step := []api.Step{{From: 0, To: 1, Set: 31}, {From: 1, To: 0, Set: 31}}
	for _, one := range []struct {
		n    api.Nfa
		want bool
	}{
		{api.Nfa{N: 1}, true},
		{api.Nfa{N: 2, End: 1}, false},
		{api.Nfa{N: 2, Start: 1, End: 1}, true},
		{api.Nfa{N: 2, End: 1, Steps: step}, false},
		{api.Nfa{N: 2, End: 1, Free: [][2]int{{0, 1}}}, true},
		{api.Nfa{N: 2, End: 1, Free: [][2]int{{1, 0}}}, false},
		{api.Nfa{N: 3, End: 2, Free: [][2]int{{1, 2}, {0, 1}}}, true},
		{api.Nfa{N: 3, End: 2, Free: [][2]int{{1, 2}, {1, 0}}}, false},
	} {
		if nfa.Run(one.n, nil) != one.want || nfa.Run(one.n, []int{}) != one.want {
			t.Errorf("Run of %v, no mode: not %v", one.n, one.want)
		}
	}
}

func TestP601RunByEachSet(t *testing.T) {
	for modes := 1; modes <= 31; modes++ {
		n := api.Nfa{N: 2, End: 1, Steps: []api.Step{{From: 0, To: 1, Set: modes}}}
		for mode := range api.Modes {
			if nfa.Run(n, []int{mode}) != (modes>>mode&1 == 1) {
				t.Errorf("set %d, mode %d", modes, mode)
			}
			if nfa.Run(n, []int{mode, mode}) {
				t.Errorf("set %d, mode %d twice", modes, mode)
			}
		}
	}
}

// Start, and what a Step leads to, are closed; so are many Free, one behind the other.
func TestP601RunAlongFree(t *testing.T) {
	n := api.Nfa{N: 8, Start: 7, End: 0, Steps: []api.Step{{From: 5, To: 4, Set: 1}, {From: 2, To: 1, Set: 2}}, Free: [][2]int{{1, 0}, {3, 2}, {4, 3}, {6, 5}, {7, 6}}}
	checkRuns(t, n, "wb", "- w b bw ww bb wwb wbb wbw")
	n.Free = append(n.Free, [2]int{7, 2}, [2]int{4, 0})
	checkRuns(t, n, "wb w b", "- bw ww bb wwb wbb wbw")
}

func TestP601RunOfStepsSideBySide(t *testing.T) {
	n := api.Nfa{N: 5, End: 4, Steps: []api.Step{{From: 0, To: 1, Set: 1}, {From: 0, To: 2, Set: 1}, {From: 0, To: 1, Set: 1}, {From: 0, To: 3, Set: 3}, {From: 1, To: 4, Set: 2}, {From: 2, To: 4, Set: 4}, {From: 3, To: 4, Set: 8}, {From: 0, To: 0, Set: 16}}}
	checkRuns(t, n, "wb wc wf bf twb ttwc tbf", "- w b c wt ww bb bc cf wbt wbc wtb")
}

func TestP601RunOfRounds(t *testing.T) {
	n := api.Nfa{N: 4, Start: 0, End: 3, Steps: []api.Step{{From: 0, To: 1, Set: 1}, {From: 1, To: 2, Set: 2}, {From: 2, To: 0, Set: 4}}, Free: [][2]int{{1, 3}, {3, 3}, {2, 2}}}
	checkRuns(t, n, "w wbcw wbcwbcw", "- wb wbc wbcwb b c ww wwbc wbcwbcww")
	n.Free = append(n.Free, [2]int{3, 0}, [2]int{2, 1})
	checkRuns(t, n, "w wb wbb wwb wbcw wbwb wbbbbcw wwww", "- wbc b c cw wc wbcb wbcc")
}

func TestP601RunFromTheEnd(t *testing.T) {
	n := api.Nfa{N: 2, Steps: []api.Step{{From: 0, To: 1, Set: 1}, {From: 1, To: 0, Set: 2}}}
	checkRuns(t, n, "- wb wbwb", "w b bw ww wbw wbb wwb")
}

// A number that is no mode is in no Set, wherever it stands.
func TestP601RunOfWhatIsNoMode(t *testing.T) {
	every := api.Nfa{N: 1, Steps: []api.Step{{Set: 31}}}
	over := api.Nfa{N: 2, End: 1, Steps: []api.Step{{Set: 31}, {To: 1, Set: 31}}, Free: [][2]int{{0, 1}, {1, 0}}}
	for _, n := range []api.Nfa{every, over} {
		if !nfa.Run(n, []int{0, 1, 2, 3, 4}) {
			t.Error("modes are not taken")
		}
		for _, no := range append([]int{5, 6, 31, 32, 63, 64, 65, 69, 255, 256, -3, -5, -59, -60, -63, -64}, far...) {
			for _, row := range [][]int{{no}, {no, 0}, {0, no}, {0, 1, no, 3, 4}, {no, no}, {4, 4, 4, no}} {
				if nfa.Run(n, row) {
					t.Errorf("%v is taken", row)
				}
			}
		}
	}
}

func TestP601RunOfLongWords(t *testing.T) {
	const long = 100000
	n := api.Nfa{N: 3, Steps: []api.Step{{From: 0, To: 1, Set: 1}, {From: 1, To: 2, Set: 1}, {From: 2, To: 0, Set: 1}}}
	for more := range 6 {
		if nfa.Run(n, make([]int, 3*long+more)) != (more%3 == 0) {
			t.Errorf("%d modes", 3*long+more)
		}
	}
}
