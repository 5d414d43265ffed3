package dfa_test

import (
	"math"
	"slices"
	"testing"

	"milestone/api"
	"milestone/dfa"
	"milestone/nfa"
)

// made is a machine of many ways: how many states it has, Start, End; its Steps from, to, by which set, one behind the other; its Free from, to.
func made(states, start, end int, steps, free []int) api.Nfa {
	n := api.Nfa{N: states, Start: start, End: end}
	for row := range slices.Chunk(steps, 3) {
		n.Steps = append(n.Steps, api.Step{From: row[0], To: row[1], Set: row[2]})
	}
	for row := range slices.Chunk(free, 2) {
		n.Free = append(n.Free, [2]int{row[0], row[1]})
	}
	return n
}

func checkLarge(t *testing.T, n api.Nfa, most int) {
	t.Helper()
	if d, e := dfa.Subsets(n, most); e != api.DfaTooLarge || d.Next != nil || d.Accept != nil {
		t.Errorf("Subsets of %d states, %d at most: %v, %d states, %d that accept or not", n.N, most, e, len(d.Next), len(d.Accept))
	}
}

// checkSubsets takes n with just as many states as there are, with more, and with too few.
func checkSubsets(t *testing.T, n api.Nfa, want api.Dfa) {
	t.Helper()
	many := len(want.Next)
	for _, most := range []int{many, many + 1, 2000} {
		if most > 2000 {
			continue
		}
		d, e := dfa.Subsets(n, most)
		if e != api.OK || !isSame(d, want) {
			t.Errorf("Subsets of %.300v, %d at most: %v, %.300v, not %.300v", n, most, e, d, want)
		}
		checkIs(t, "what is told", d, true)
	}
	for _, most := range []int{many - 1, many / 2, 1} {
		if 1 <= most && most < many {
			checkLarge(t, n, most)
		}
	}
}

func TestP702OfOneState(t *testing.T) {
	checkSubsets(t, made(1, 0, 0, nil, nil), machine("11111! 11111"))
	checkSubsets(t, made(1, 0, 0, []int{0, 0, 31}, nil), machine("00000!"))
	checkSubsets(t, made(1, 0, 0, []int{0, 0, 21}, []int{0, 0}), machine("01010! 11111"))
	checkSubsets(t, made(1, 0, 0, []int{0, 0, 10, 0, 0, 20}, nil), machine("10000! 11111"))
}

func TestP702OfRoundsOfFree(t *testing.T) {
	round := []int{0, 1, 1, 2, 2, 0}
	checkSubsets(t, made(4, 1, 3, []int{2, 3, 1, 3, 0, 2}, round), machine("12222 20222! 22222"))
	checkSubsets(t, made(4, 3, 1, []int{3, 0, 1}, round), machine("12222 22222! 22222"))
	checkSubsets(t, made(4, 0, 2, []int{1, 2, 1, 0, 3, 2}, append(round, 3, 3)), machine("01222! 22222 22222"))
	checkSubsets(t, made(3, 2, 0, []int{0, 0, 16, 1, 1, 31, 2, 2, 8}, append(round, 0, 2, 2, 1, 1, 0)), machine("00000!"))
	checkSubsets(t, made(2, 0, 1, nil, []int{0, 1, 1, 0}), machine("11111! 11111"))
}

// The Start is closed, and so is where a mode leads; what leads to the Start is not met.
func TestP702OfChainsOfFree(t *testing.T) {
	checkSubsets(t, made(3, 1, 2, nil, []int{0, 1, 1, 2}), machine("11111! 11111"))
	checkSubsets(t, made(3, 1, 0, nil, []int{0, 1, 1, 2}), machine("11111 11111"))
	checkSubsets(t, made(8, 7, 0, []int{5, 4, 1, 2, 1, 2}, []int{1, 0, 3, 2, 4, 3, 6, 5, 7, 6}), machine("12222 23222 22222 22222!"))
	checkSubsets(t, made(4, 0, 3, []int{0, 1, 1, 3, 0, 1}, []int{1, 2, 2, 3}), machine("12222 02222! 22222"))
}

func TestP702OfStepsSideBySide(t *testing.T) {
	checkSubsets(t, made(3, 0, 2, []int{0, 1, 1, 0, 2, 3, 1, 2, 4, 0, 1, 1}, nil), machine("12333 33233! 33333! 33333"))
	checkSubsets(t, made(3, 0, 2, []int{0, 0, 3, 0, 1, 1, 1, 2, 3}, nil), machine("10222 34222 22222 34222! 10222!"))
	checkSubsets(t, made(2, 0, 1, []int{0, 1, 1, 0, 1, 2, 0, 1, 4, 0, 1, 8, 0, 1, 16, 1, 0, 31}, nil), machine("11111 00000!"))
}

// Two that are come to by other Steps are one state, if they have the same states of n.
func TestP702OfWhatLeadsToTheSameSet(t *testing.T) {
	checkSubsets(t, made(3, 0, 2, []int{0, 1, 1, 0, 2, 2}, []int{1, 2, 2, 1}), machine("11222 22222! 22222"))
	checkSubsets(t, made(4, 0, 3, []int{0, 1, 1, 0, 2, 1, 0, 2, 2, 0, 1, 2, 2, 3, 31}, nil), machine("11222 33333 22222 22222!"))
	checkSubsets(t, made(4, 0, 3, []int{0, 1, 1, 0, 2, 2}, []int{1, 3, 2, 3}), machine("12333 33333! 33333! 33333"))
}

func TestP702OfNoStepFromTheStart(t *testing.T) {
	checkSubsets(t, made(2, 0, 1, []int{1, 0, 31}, nil), machine("11111 11111"))
	checkSubsets(t, made(2, 0, 0, []int{1, 0, 31, 1, 1, 31}, nil), machine("11111! 11111"))
	checkSubsets(t, made(3, 2, 1, []int{1, 0, 31, 0, 1, 31}, []int{0, 2, 1, 2}), machine("11111 11111"))
}

func TestP702OfAnEndThatIsNotReached(t *testing.T) {
	checkSubsets(t, made(3, 0, 2, []int{0, 1, 1, 1, 0, 1, 2, 0, 31}, nil), machine("12222 02222 22222"))
	checkSubsets(t, made(3, 0, 2, []int{0, 1, 31, 1, 0, 31}, []int{2, 0, 2, 1}), machine("11111 00000"))
}

// The set of none is numbered as others are: as it is met.
func TestP702OfTheSetOfNone(t *testing.T) {
	checkSubsets(t, made(2, 0, 1, []int{0, 1, 2}, nil), machine("12111 11111 11111!"))
	checkSubsets(t, made(2, 0, 1, []int{0, 1, 16}, nil), machine("11112 11111 11111!"))
	checkSubsets(t, made(2, 0, 1, []int{0, 1, 31}, nil), machine("11111 22222! 22222"))
	checkSubsets(t, made(3, 0, 2, []int{0, 1, 31, 1, 2, 15, 2, 0, 31}, nil), machine("11111 22223 00000! 33333"))
}

// New ones are numbered state by state, mode by mode.
func TestP702OfNumbers(t *testing.T) {
	checkSubsets(t, made(5, 0, 4, []int{0, 1, 16, 0, 2, 1, 2, 3, 1, 1, 4, 1}, nil), machine("12223 42222 22222 52222 22222 22222!"))
	checkSubsets(t, made(6, 5, 0, []int{5, 4, 1, 5, 3, 2, 5, 2, 4, 5, 1, 8, 5, 0, 16}, nil), machine("12345 66666 66666 66666 66666 66666! 66666"))
	checkSubsets(t, made(6, 0, 5, []int{0, 1, 16, 0, 2, 8, 0, 3, 4, 0, 4, 2, 0, 5, 1, 5, 1, 31, 4, 0, 31}, nil), machine("12345 55555! 00000 66666 66666 66666 66666"))
	checkSubsets(t, made(4, 0, 3, []int{0, 1, 1, 1, 2, 1, 2, 3, 1, 0, 3, 2}, nil), machine("12333 43333 33333! 33333 23333"))
}

// plainly is Subsets as the chapter's words go; of those that are too large some more states than may be.
func plainly(n api.Nfa) api.Dfa {
	sets := [][]int{nfa.Close(n, []int{n.Start})}
	var d api.Dfa
	for state := 0; state < len(sets) && state <= 2000; state++ {
		var row [api.Modes]int
		for mode := range row {
			met := nfa.Close(n, steps(n, sets[state], mode))
			row[mode] = slices.IndexFunc(sets, func(s []int) bool { return slices.Equal(s, met) })
			if row[mode] < 0 {
				row[mode] = len(sets)
				sets = append(sets, met)
			}
		}
		d.Next = append(d.Next, row)
		d.Accept = append(d.Accept, slices.Contains(sets[state], n.End))
	}
	return d
}

// checkPlainly holds Subsets of n against the plain one, and tells how many states there are.
func checkPlainly(t *testing.T, n api.Nfa) int {
	t.Helper()
	want := plainly(n)
	if len(want.Next) > 2000 {
		checkLarge(t, n, 2000)
	} else {
		checkSubsets(t, n, want)
	}
	return len(want.Next)
}

// steps is where Steps lead from these by the mode.
func steps(n api.Nfa, from []int, mode int) []int {
	var to []int
	for _, s := range n.Steps {
		if s.Set&(1<<mode) != 0 && slices.Contains(from, s.From) {
			to = append(to, s.To)
		}
	}
	return to
}

// Numbers of states far from one another tell sets apart as those near do.
func TestP702OfManyStates(t *testing.T) {
	some := []int{0, 1, 31, 32, 62, 63, 64, 65, 127, 128, 129, 191, 192, 255, 256, 511, 512, 959, 960, 998, 999}
	for _, many := range []int{1000, 512, 129, 128, 65, 64, 63, 2} {
		row := slices.DeleteFunc(slices.Clone(some), func(state int) bool { return state >= many })
		for _, last := range []int{0, 1, many - 1, row[len(row)/2]} {
			n := made(many, 0, last, nil, nil)
			for i, state := range row {
				n.Steps = append(n.Steps, api.Step{From: state, To: row[(i+1)%len(row)], Set: 3}, api.Step{From: state, To: row[(5*i+3)%len(row)], Set: 4})
			}
			checkPlainly(t, n)
			n.Free = [][2]int{{row[len(row)/2], last}, {many - 1, many / 2}, {many / 3, 0}}
			checkPlainly(t, n)
		}
	}
}

func TestP702OfChains(t *testing.T) {
	for _, many := range []int{1, 2, 63, 64, 65, 1000} {
		n := made(many, 0, many-1, nil, nil)
		for state := range many - 1 {
			n.Steps = append(n.Steps, api.Step{From: state, To: state + 1, Set: 1 << (state % 5)})
		}
		d, e := dfa.Subsets(n, 2000)
		if e != api.OK || len(d.Next) != many+1 {
			t.Errorf("a chain of %d: %v, %d states", many, e, len(d.Next))
		}
		checkPlainly(t, n)
	}
}

// rounds has a Start, from which Free lead to two rounds, so many states each, whose Steps have this set: 1 state and as many as both together may come to, and, if not all modes lead on, that of none.
func rounds(one, two, set int) api.Nfa {
	n := api.Nfa{N: 1 + one + two, End: one, Free: [][2]int{{0, 1}, {0, 1 + one}}}
	for state := range one {
		n.Steps = append(n.Steps, api.Step{From: 1 + state, To: 1 + (state+1)%one, Set: set})
	}
	for state := range two {
		n.Steps = append(n.Steps, api.Step{From: 1 + one + state, To: 1 + one + (state+1)%two, Set: set})
	}
	return n
}

func TestP702AtTheCaps(t *testing.T) {
	just := rounds(54, 37, 1)
	want := plainly(just)
	if len(want.Next) != 2000 {
		t.Fatalf("%d states", len(want.Next))
	}
	checkSubsets(t, just, want)
	checkLarge(t, just, 1999)
	over := rounds(16, 125, 31)
	if many := len(plainly(over).Next); many != 2001 {
		t.Fatalf("%d states", many)
	}
	checkLarge(t, over, 2000)
	checkLarge(t, over, 1)
	checkLarge(t, rounds(37, 54, 31), 1998)
	if d, e := dfa.Subsets(rounds(37, 54, 31), 1999); e != api.OK || len(d.Next) != 1999 {
		t.Errorf("%v, %d states", e, len(d.Next))
	}
	checkLarge(t, rounds(499, 500, 1), 2000)
	checkLarge(t, made(1, 0, 0, nil, nil), 1)
	checkLarge(t, made(2, 0, 1, []int{0, 1, 31, 1, 1, 31}, nil), 1)
	checkSubsets(t, made(2, 0, 1, []int{0, 0, 31, 1, 1, 31}, []int{0, 1}), machine("00000!"))
}

// It is too large by its last state, which the last mode of the last but one leads to, as by any other.
func TestP702TooLargeByTheLast(t *testing.T) {
	for many := 2; many <= 40; many++ {
		n := made(many, 0, many-1, []int{many - 1, 0, 31}, nil)
		for state := range many - 1 {
			n.Steps = append(n.Steps, api.Step{From: state, To: 0, Set: 15}, api.Step{From: state, To: state + 1, Set: 16})
		}
		checkPlainly(t, n)
		checkLarge(t, n, many-1)
	}
}

// P9: a number that is out of bounds is not clamped.
func TestP702OfOtherCaps(t *testing.T) {
	for _, most := range []int{0, -1, -2000, 2001, 2002, 1 << 31, 1 << 32, 1<<32 + 5, math.MaxInt, math.MinInt} {
		for _, n := range []api.Nfa{made(1, 0, 0, []int{0, 0, 31}, nil), made(2, 0, 1, []int{0, 1, 1}, nil), rounds(16, 125, 31)} {
			if d, e := dfa.Subsets(n, most); e == api.OK || d.Next != nil || d.Accept != nil {
				t.Errorf("%d at most: %v, %d states", most, e, len(d.Next))
			}
		}
	}
}

// The largest of machines are done, too.
func TestP702OfTheLargest(t *testing.T) {
	n := api.Nfa{N: 1000, Start: 999, End: 500}
	for i := range 20000 {
		n.Steps = append(n.Steps, api.Step{From: i % 1000, To: (i*7 + i/1000) % 1000, Set: 1 + i%31})
		n.Free = append(n.Free, [2]int{i % 1000, (i*3 + i/1000) % 1000})
	}
	if d, e := dfa.Subsets(n, 2000); e != api.OK || !isSame(d, plainly(n)) {
		t.Errorf("%v, %d states", e, len(d.Next))
	}
	n.Free = nil
	d := dice(20000)
	var words [][]int
	for range 30 {
		words = append(words, d.anyWord(20))
	}
	if m := checkLanguage(t, n, words); len(m.Next) < 100 {
		t.Errorf("%d states", len(m.Next))
	}
}
