package nfa_test

import (
	"math"
	"slices"
	"testing"

	"milestone/api"
	"milestone/match"
	"milestone/nfa"
	"milestone/regex"
)

// dice throws the same numbers each time.
type dice uint64

func (d *dice) below(n int) int {
	*d = *d*6364136223846793005 + 1442695040888963407
	return int(uint64(*d)>>33) % n
}

// anyRight is an expression, at most so deep.
func (d *dice) anyRight(deep int) api.Node {
	kind := api.KSet + d.below(9)
	if deep == 0 {
		kind = api.KSet + d.below(3)
	}
	n := api.Node{Kind: kind}
	parts := 1
	switch kind {
	case api.KSet:
		n.Set = 1 + d.below(31)
		return n
	case api.KEmpty, api.KNone:
		return n
	case api.KJoin, api.KUnion:
		parts = 2 + d.below(2)
	case api.KRepeat:
		n.Lo = d.below(4)
		n.Hi = n.Lo + d.below(3)
	}
	for range parts {
		n.L = append(n.L, d.anyRight(deep-1))
	}
	return n
}

// anyMachine is one that Check takes, of few states.
func (d *dice) anyMachine() api.Nfa {
	n := api.Nfa{N: 1 + d.below(9)}
	n.Start, n.End = d.below(n.N), d.below(n.N)
	for range d.below(12) {
		n.Steps = append(n.Steps, api.Step{From: d.below(n.N), To: d.below(n.N), Set: 1 + d.below(31)})
	}
	for range d.below(8) {
		n.Free = append(n.Free, [2]int{d.below(n.N), d.below(n.N)})
	}
	return n
}

// closed is Close as the chapter's words go: as long as a Free leads on.
func closed(n api.Nfa, from map[int]bool) []int {
	in := map[int]bool{}
	for state := range from {
		in[state] = true
	}
	for before := -1; before != len(in); {
		before = len(in)
		for _, f := range n.Free {
			if in[f[0]] {
				in[f[1]] = true
			}
		}
	}
	var row []int
	for state := range n.N {
		if in[state] {
			row = append(row, state)
		}
	}
	return row
}

// runs is Run as the chapter's words go.
func runs(n api.Nfa, word []int) bool {
	at := closed(n, map[int]bool{n.Start: true})
	for _, mode := range word {
		to := map[int]bool{}
		for _, s := range n.Steps {
			if slices.Contains(at, s.From) && s.Set&(1<<mode) != 0 {
				to[s.To] = true
			}
		}
		at = closed(n, to)
	}
	return slices.Contains(at, n.End)
}

func TestP601OfMachinesByDice(t *testing.T) {
	d := dice(601)
	for range 2000 {
		n := d.anyMachine()
		checkIs(t, "one by dice", n, true)
		from := map[int]bool{}
		var states []int
		for range d.below(6) {
			state := d.below(n.N+4) - 2
			states = append(states, state)
			if 0 <= state && state < n.N {
				from[state] = true
			}
		}
		checkClose(t, n, states, closed(n, from))
		for range 10 {
			word := d.anyWord(5)
			if want := runs(n, word); nfa.Run(n, word) != want {
				t.Fatalf("Run of %v, %v: not %v", n, word, want)
			}
		}
	}
}

func (d *dice) anyWord(most int) []int {
	var word []int
	for range d.below(most + 1) {
		word = append(word, d.below(api.Modes))
	}
	return word
}

func TestP602BuildByDice(t *testing.T) {
	d := dice(602)
	large := 0
	for i := range 1500 {
		n := d.anyRight(1 + i%10)
		if want := plainly(n); want.N <= api.MaxStates {
			checkBuild(t, n, want)
		} else {
			checkLarge(t, n)
			large++
		}
	}
	if large == 0 {
		t.Error("none of them is too large")
	}
}

// everyWord is all words of no more modes than most.
func everyWord(most int) [][]int {
	words := [][]int{nil}
	for i := 0; len(words[i]) < most; i++ {
		for mode := range api.Modes {
			words = append(words, append(slices.Clone(words[i]), mode))
		}
	}
	return words
}

// checkLanguage holds what Run tells of the machine against what Match tells of the expression.
func checkLanguage(t *testing.T, n api.Node, words [][]int) (taken int) {
	t.Helper()
	m, e := nfa.Build(n)
	if e != api.OK {
		t.Fatalf("%.200s is not built", regex.Text(n))
	}
	for _, word := range words {
		want := match.Match(n, word)
		if nfa.Run(m, word) != want {
			t.Fatalf("%.200s, %v: not %v", regex.Text(n), word, want)
		}
		if want {
			taken++
		}
	}
	return taken
}

func TestP603OfEachKind(t *testing.T) {
	words := everyWord(4)
	for text, many := range map[string]int{"w": 1, "[wb]": 2, ".": 5, "0": 0, "_": 1, "wb": 1, "w.f": 5, "w|b": 2, "w|bb|_": 3, "w*": 5, "w+": 4, "w?": 2, "w{0,0}": 1, "w{0,2}": 3, "w{2,2}": 1, "w{2,3}": 2, "w{4,9}": 1, "w{5,9}": 0} {
		n, _, e := regex.Parse(text)
		if taken := checkLanguage(t, n, words); e != api.OK || taken != many {
			t.Errorf("%s: %d words, not %d", text, taken, many)
		}
	}
}

func TestP603OfSomeInOneAnother(t *testing.T) {
	words := everyWord(4)
	for _, text := range []string{"w**", "(w*)+", "(w+)*", "(w?)*", "(w*)?", "(w?)+", "_*", "0*", "0+", "0?", "(w|b0)*", "(wb)*", "(wb|b)+w?", "(w*b*)*", "(w*b)*c", "w(b|c)*[ft]{1,3}", "((_|w)*|b){2,2}", "(w?){2,3}", "(w*){0,2}b", "(w{0,2}b){0,2}", "(w{2,2}){0,2}", "(_|bb){2,3}", "(w+b?)+c|t", "((w|b)(c|f))+", "(w*|b*){2,2}", "((wb)*|(bw)*)+", "(w|_)(b|_)(w|_)", "(.w)*|.?", "(w{0,0}b)*", "(w{0,0})+"} {
		n, _, e := regex.Parse(text)
		if e != api.OK {
			t.Fatalf("%s is not read", text)
		}
		checkLanguage(t, n, words)
		for _, around := range []api.Node{of(api.KStar, n), of(api.KPlus, n), of(api.KMaybe, n), times(0, 2, n), times(1, 2, n), times(2, 2, n), of(api.KJoin, n, n), of(api.KUnion, n, n, b)} {
			checkLanguage(t, around, words[:156])
		}
	}
}

func TestP603OfAny(t *testing.T) {
	d := dice(603)
	taken, long := 0, 0
	for i := range 400 {
		n := d.anyRight(1 + i%4)
		if plainly(n).N > api.MaxStates {
			continue
		}
		taken += checkLanguage(t, n, everyWord(2))
		var words [][]int
		for range 40 {
			words = append(words, d.oneOf(n), d.anyWord(9))
		}
		long += checkLanguage(t, n, words)
	}
	if taken == 0 || long == 0 {
		t.Errorf("%d, %d words are taken", taken, long)
	}
}

// oneOf is a word that n takes, if it has no part that takes none.
func (d *dice) oneOf(n api.Node) []int {
	switch n.Kind {
	case api.KSet:
		for {
			if mode := d.below(api.Modes); n.Set>>mode&1 == 1 {
				return []int{mode}
			}
		}
	case api.KJoin:
		return d.oneOfEach(n.L)
	case api.KUnion:
		return d.oneOf(n.L[d.below(len(n.L))])
	case api.KStar:
		return d.oneOfEach(slices.Repeat(n.L, d.below(3)))
	case api.KPlus:
		return d.oneOfEach(slices.Repeat(n.L, 1+d.below(2)))
	case api.KMaybe:
		return d.oneOfEach(slices.Repeat(n.L, d.below(2)))
	case api.KRepeat:
		return d.oneOfEach(slices.Repeat(n.L, n.Lo+d.below(n.Hi-n.Lo+1)))
	}
	return nil
}

func (d *dice) oneOfEach(parts []api.Node) []int {
	var word []int
	for _, part := range parts {
		word = append(word, d.oneOf(part)...)
	}
	return word
}

func TestP603OfTheLargest(t *testing.T) {
	d := dice(2)
	n := rowOf(500)
	row := d.oneOf(n)
	checkLanguage(t, n, [][]int{row, row[1:], row[:499], append(slices.Clone(row), 0)})
	n = times(2, 3, of(api.KJoin, times(0, 9, w), of(api.KPlus, b), times(9, 9, of(api.KMaybe, set(5)))))
	var words [][]int
	for range 300 {
		words = append(words, d.oneOf(n))
	}
	if taken := checkLanguage(t, n, words); taken != len(words) {
		t.Errorf("%d of %d are taken", taken, len(words))
	}
}

// odd are numbers that bounds are held against.
var odd = []int{-1, 0, 1, 2, 3, 5, 31, 32, 999, 1000, 1001, 20000, 1 << 31, 1 << 32, -1 << 31, math.MaxInt, math.MinInt}

func (d *dice) anyNumber() int {
	if d.below(3) == 0 {
		return odd[d.below(len(odd))]
	}
	return d.below(4)
}

// Of what is no machine nothing is promised but that each call ends.
func TestP1OfWhatIsNoMachine(t *testing.T) {
	d := dice(11)
	for range 20000 {
		n := api.Nfa{N: d.anyNumber(), Start: d.anyNumber(), End: d.anyNumber()}
		for range d.below(4) {
			n.Steps = append(n.Steps, api.Step{From: d.anyNumber(), To: d.anyNumber(), Set: d.anyNumber()})
			n.Free = append(n.Free, [2]int{d.anyNumber(), d.anyNumber()})
		}
		row := []int{d.anyNumber(), d.anyNumber(), d.anyNumber()}
		before := api.Nfa{N: n.N, Start: n.Start, End: n.End, Steps: slices.Clone(n.Steps), Free: slices.Clone(n.Free)}
		is := nfa.Check(n)
		states, taken := nfa.Close(n, row), nfa.Run(n, row)
		if !is && (len(states) > 0 || taken) {
			t.Errorf("%v is no machine: %v, %v", n, states, taken)
		}
		if !isSame(n, before) {
			t.Errorf("changed: %v", n)
		}
	}
	for _, n := range []api.Nfa{{}, {N: -1}, {N: math.MaxInt, Start: 5}, {N: 1, Steps: make([]api.Step, 1)}, {N: 1, Free: [][2]int{{0, 1}}}, {N: 1, Free: make([][2]int, 20001)}, {N: 1, End: -1}} {
		nfa.Close(n, []int{0, -1, 1})
		nfa.Run(n, []int{0, -1, 64})
		nfa.Run(n, nil)
	}
}

func TestP4OfWhatIsNotRight(t *testing.T) {
	some := []api.Node{w}
	for _, n := range []api.Node{
		{}, {Kind: -1}, {Kind: 10}, {Kind: math.MaxInt}, {Kind: api.KSet}, {Kind: api.KSet, Set: 32}, {Kind: api.KSet, Set: -1}, {Kind: api.KSet, Set: 1, L: some},
		{Kind: api.KEmpty, L: some}, {Kind: api.KNone, Set: 1}, {Kind: api.KJoin}, {Kind: api.KJoin, L: some}, {Kind: api.KUnion}, {Kind: api.KUnion, L: some},
		{Kind: api.KStar}, {Kind: api.KPlus}, {Kind: api.KMaybe}, {Kind: api.KStar, L: []api.Node{w, w}}, {Kind: api.KStar, L: []api.Node{{}}},
		{Kind: api.KRepeat, Hi: 3}, {Kind: api.KRepeat, Lo: 2, Hi: 1, L: some}, {Kind: api.KRepeat, Lo: -1, Hi: 1, L: some}, {Kind: api.KRepeat, Hi: 10, L: some}, {Kind: api.KRepeat, Hi: math.MaxInt, L: some}, {Kind: api.KRepeat, Lo: math.MinInt, Hi: math.MinInt, L: some}, {Kind: api.KRepeat, L: []api.Node{{}}},
	} {
		if m, e := nfa.Build(n); e == api.OK || !isSame(m, api.Nfa{}) {
			t.Errorf("%v: %v, %v", n, m, e)
		}
	}
}

// withRoom is the row with spare room behind it, filled with a sign.
func withRoom[T any](row []T, sign T) []T {
	return append(slices.Clone(row), sign, sign, sign)[:len(row)]
}

// spoil fills a row and its spare room.
func spoil[T any](row []T, sign T) {
	for i := range row[:cap(row)] {
		row[:cap(row)][i] = sign
	}
}

func TestP2WhatIsHandedInIsNotChanged(t *testing.T) {
	n := paths()
	n.Steps, n.Free = withRoom(n.Steps, api.Step{From: -7}), withRoom(n.Free, [2]int{-7, -7})
	states, modes := withRoom([]int{8, 3, 1, -1, 9}, -7), withRoom([]int{0, 4, 2}, -7)
	steps, free := slices.Clone(n.Steps[:cap(n.Steps)]), slices.Clone(n.Free[:cap(n.Free)])
	inStates, inModes := slices.Clone(states[:cap(states)]), slices.Clone(modes[:cap(modes)])
	nfa.Check(n)
	spoil(nfa.Close(n, states), -8)
	nfa.Run(n, modes)
	if !slices.Equal(n.Steps[:cap(n.Steps)], steps) || !slices.Equal(n.Free[:cap(n.Free)], free) {
		t.Errorf("changed: %v", n)
	}
	if !slices.Equal(states[:cap(states)], inStates) || !slices.Equal(modes[:cap(modes)], inModes) {
		t.Errorf("changed: %v, %v", states, modes)
	}
	sign := set(16)
	row := withRoom([]api.Node{w, times(1, 2, b), none}, sign)
	nfa.Build(of(api.KJoin, row...))
	if row = row[:cap(row)]; row[0].Set != 1 || row[1].Lo != 1 || row[2].Kind != api.KNone || row[3].Set != 16 {
		t.Errorf("changed: %v", row)
	}
}

func TestP2CloseAnswersNewMemory(t *testing.T) {
	n := paths()
	for _, states := range [][]int{{7}, {0, 3, 5, 7}, {8, 1}, {8}} {
		want := nfa.Close(n, states)
		first, second := nfa.Close(n, states), nfa.Close(n, states)
		spoil(first, -9)
		if !slices.Equal(second, want) {
			t.Errorf("two answers share: %v", second)
		}
		checkClose(t, n, states, want)
		checkClose(t, n, []int{7, 2}, []int{0, 2, 3, 4, 5, 6, 7})
		handed := slices.Clone(states)
		told := nfa.Close(n, handed)
		spoil(handed, 2)
		spoil(n.Free, [2]int{2, 2})
		if !slices.Equal(told, want) {
			t.Errorf("an answer shares with what was handed in: %v", told)
		}
		n = paths()
	}
}

func TestP2BuildAnswersNewMemory(t *testing.T) {
	for _, n := range []api.Node{w, none, of(api.KJoin, w, b), of(api.KUnion, w, none), times(2, 9, of(api.KStar, of(api.KJoin, w, none))), rowOf(499)} {
		want := plainly(n)
		one, _ := nfa.Build(n)
		two, _ := nfa.Build(n)
		spoil(one.Steps, api.Step{From: -9})
		if !slices.Equal(one.Free, want.Free) {
			t.Error("Steps and Free share")
		}
		spoil(one.Free, [2]int{-9, -9})
		if !isSame(two, want) {
			t.Error("two answers share")
		}
		checkBuild(t, n, want)
	}
}

// What is told of a machine hangs on what it is by then.
func TestP2NothingIsKept(t *testing.T) {
	n := api.Nfa{N: 3, End: 2, Steps: []api.Step{{From: 0, To: 1, Set: 1}}, Free: [][2]int{{1, 2}}}
	checkRuns(t, n, "w", "- b ww")
	checkClose(t, n, []int{1}, []int{1, 2})
	n.Steps[0].Set = 2
	checkRuns(t, n, "b", "- w bb")
	n.Free[0] = [2]int{0, 2}
	checkRuns(t, n, "-", "w b bb")
	checkClose(t, n, []int{1}, []int{1})
	checkClose(t, n, []int{0}, []int{0, 2})
	n.Steps[0].Set = 0
	checkIs(t, "one that was changed", n, false)
}

func TestP3TheSameCallsAnswerTheSame(t *testing.T) {
	d := dice(3)
	for range 60 {
		n := d.anyRight(3)
		one, e := nfa.Build(n)
		two, f := nfa.Build(n)
		if e != f || !isSame(one, two) {
			t.Errorf("%s is built in two ways", regex.Text(n))
		}
		m := d.anyMachine()
		for range 5 {
			row := d.anyWord(5)
			checkClose(t, m, row, nfa.Close(m, row))
			if nfa.Run(m, row) != nfa.Run(m, row) {
				t.Errorf("%v is taken once", row)
			}
		}
	}
}
