package nfa_test

import (
	"math"
	"slices"
	"testing"

	"milestone/api"
	"milestone/nfa"
)

// checkIs holds what Check tells of a machine.
func checkIs(t *testing.T, what string, n api.Nfa, want bool) {
	t.Helper()
	if nfa.Check(n) != want {
		t.Errorf("Check of %s: not %v", what, want)
	}
}

// small is a machine of 7 states, with a Step and a Free at either end of its rows.
func small() api.Nfa {
	return api.Nfa{N: 7, Start: 1, End: 5, Steps: []api.Step{{From: 0, To: 6, Set: 1}, {From: 3, To: 3, Set: 31}, {From: 6, To: 0, Set: 16}}, Free: [][2]int{{0, 6}, {2, 2}, {6, 0}}}
}

func TestP601CheckByHowManyStates(t *testing.T) {
	for _, one := range []struct {
		n    int
		want bool
	}{{0, false}, {1, true}, {2, true}, {999, true}, {1000, true}, {1001, false}, {1 << 20, false}, {1 << 32, false}, {1<<32 + 1, false}, {-1, false}, {math.MinInt, false}, {math.MaxInt, false}} {
		checkIs(t, "states alone", api.Nfa{N: one.n}, one.want)
	}
}

func TestP601CheckByHowManyRows(t *testing.T) {
	for _, one := range []struct {
		many int
		want bool
	}{{0, true}, {1, true}, {19999, true}, {20000, true}, {20001, false}, {40000, false}} {
		steps := slices.Repeat([]api.Step{{Set: 1}}, one.many)
		free := make([][2]int, one.many)
		checkIs(t, "Steps", api.Nfa{N: 1, Steps: steps}, one.want)
		checkIs(t, "Free", api.Nfa{N: 1, Free: free}, one.want)
		checkIs(t, "both", api.Nfa{N: 1, Steps: steps, Free: free}, one.want)
	}
}

// Each number that tells of a state is one of them, wherever it stands.
func TestP601CheckByWhichStates(t *testing.T) {
	n := small()
	for _, one := range []struct {
		state int
		want  bool
	}{{-1, false}, {0, true}, {1, true}, {n.N - 1, true}, {n.N, false}, {n.N + 1, false}, {1 << 32, false}, {math.MaxInt, false}, {math.MinInt, false}} {
		n := small()
		n.Start = one.state
		checkIs(t, "Start", n, one.want)
		n = small()
		n.End = one.state
		checkIs(t, "End", n, one.want)
		for i := range n.Steps {
			n = small()
			n.Steps[i].From = one.state
			checkIs(t, "From", n, one.want)
			n = small()
			n.Steps[i].To = one.state
			checkIs(t, "To", n, one.want)
		}
		for i := range n.Free {
			for side := range 2 {
				n = small()
				n.Free[i][side] = one.state
				checkIs(t, "Free", n, one.want)
			}
		}
	}
}

func TestP601CheckBySet(t *testing.T) {
	for i := range small().Steps {
		for modes := -2; modes <= 66; modes++ {
			n := small()
			n.Steps[i].Set = modes
			checkIs(t, "Set", n, 1 <= modes && modes <= 31)
		}
		for _, modes := range []int{1 << 31, 1 << 32, 1<<32 + 1, math.MaxInt, math.MinInt, -1 << 31} {
			n := small()
			n.Steps[i].Set = modes
			checkIs(t, "Set", n, false)
		}
	}
}

func TestP601CheckOfTheLargest(t *testing.T) {
	n := api.Nfa{N: 1000, Start: 999, End: 999}
	for i := range 20000 {
		n.Steps = append(n.Steps, api.Step{From: i % 1000, To: 999 - i%1000, Set: 1 + i%31})
		n.Free = append(n.Free, [2]int{i % 1000, 999 - i%1000})
	}
	checkIs(t, "the largest", n, true)
	n.Steps[19999].To = 1000
	checkIs(t, "its last Step wrong", n, false)
	n.Steps[19999].To = 0
	n.Free[19999][1] = 1000
	checkIs(t, "its last Free wrong", n, false)
}
