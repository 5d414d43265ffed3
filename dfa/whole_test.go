package dfa_test

import (
	"math"
	"slices"
	"testing"

	"milestone/api"
	"milestone/dfa"
	"milestone/match"
	"milestone/nfa"
	"milestone/regex"
)

// dice throws the same numbers each time.
type dice uint64

func (d *dice) below(n int) int {
	*d = *d*6364136223846793005 + 1442695040888963407
	return int(uint64(*d)>>33) % n
}

// anyRight is an expression, at most so deep.
func (d *dice) anyRight(deep int) api.Node {
	kind := api.KSet + d.below(9)
	if deep == 0 {
		kind = api.KSet + d.below(3)
	}
	n := api.Node{Kind: kind}
	parts := 1
	switch kind {
	case api.KSet:
		n.Set = 1 + d.below(31)
		return n
	case api.KEmpty, api.KNone:
		return n
	case api.KJoin, api.KUnion:
		parts = 2 + d.below(2)
	case api.KRepeat:
		n.Lo = d.below(4)
		n.Hi = n.Lo + d.below(3)
	}
	for range parts {
		n.L = append(n.L, d.anyRight(deep-1))
	}
	return n
}

// anyMany is a machine of many ways, of few states.
func (d *dice) anyMany() api.Nfa {
	n := api.Nfa{N: 1 + d.below(9)}
	n.Start, n.End = d.below(n.N), d.below(n.N)
	for range d.below(20) {
		n.Steps = append(n.Steps, api.Step{From: d.below(n.N), To: d.below(n.N), Set: 1 + d.below(31)})
	}
	for range d.below(6) {
		n.Free = append(n.Free, [2]int{d.below(n.N), d.below(n.N)})
	}
	return n
}

// anyOne is a machine of one way, of few states.
func (d *dice) anyOne() api.Dfa {
	many := 1 + d.below(6)
	m := sized(many, many)
	for i := range many {
		for mode := range api.Modes {
			m.Next[i][mode] = d.below(many)
		}
		m.Accept[i] = d.below(2) == 0
	}
	return m
}

func (d *dice) anyWord(most int) []int {
	var word []int
	for range d.below(most + 1) {
		word = append(word, d.below(api.Modes))
	}
	return word
}

// everyWord is all words of no more modes than most.
func everyWord(most int) [][]int {
	words := [][]int{nil}
	for i := 0; len(words[i]) < most; i++ {
		for mode := range api.Modes {
			words = append(words, append(slices.Clone(words[i]), mode))
		}
	}
	return words
}

func TestP701OfMachinesByDice(t *testing.T) {
	d := dice(701)
	for range 2000 {
		m := d.anyOne()
		checkIs(t, "one by dice", m, true)
		for range 10 {
			row, state := d.anyWord(6), d.below(len(m.Next))
			at, from0 := state, 0
			for _, mode := range row {
				at, from0 = m.Next[at][mode], m.Next[from0][mode]
			}
			checkGo(t, m, state, row, at)
			if dfa.Run(m, row) != m.Accept[from0] {
				t.Fatalf("Run of %v, %v: not %v", m, row, m.Accept[from0])
			}
		}
	}
}

func TestP702ByDice(t *testing.T) {
	d := dice(702)
	most := 0
	for range 3000 {
		most = max(most, checkPlainly(t, d.anyMany()))
	}
	for i := range 800 {
		n, e := nfa.Build(d.anyRight(1 + i%6))
		if e == api.OK && n.N <= 200 {
			most = max(most, checkPlainly(t, n))
		}
	}
	if most < 50 {
		t.Errorf("%d states at most", most)
	}
}

// checkLanguage holds what Run tells of n's machine of one way against what nfa.Run tells of n.
func checkLanguage(t *testing.T, n api.Nfa, words [][]int) (d api.Dfa) {
	t.Helper()
	d, e := dfa.Subsets(n, 2000)
	if e != api.OK {
		t.Fatalf("Subsets of %.300v: %v", n, e)
	}
	for _, word := range words {
		if want := nfa.Run(n, word); dfa.Run(d, word) != want {
			t.Fatalf("Run of %.300v, %v: not %v", n, word, want)
		}
	}
	return d
}

func TestP703OfMachinesByDice(t *testing.T) {
	d := dice(703)
	words := everyWord(3)
	for range 500 {
		n := d.anyMany()
		var long [][]int
		for range 20 {
			long = append(long, d.anyWord(30))
		}
		checkLanguage(t, n, words)
		checkLanguage(t, n, long)
		checkLanguage(t, n, [][]int{{5}, {-1}, {0, 5}, {5, 0}, {1, 64, 1}})
	}
}

// checkExpression holds Run of the machine that is built of it against Match, and tells how many words are taken.
func checkExpression(t *testing.T, n api.Node, words [][]int) (taken int) {
	t.Helper()
	many, e := nfa.Build(n)
	if e != api.OK {
		t.Fatalf("%.200s is not built", regex.Text(n))
	}
	d := checkLanguage(t, many, words)
	for _, word := range words {
		want := match.Match(n, word)
		if dfa.Run(d, word) != want {
			t.Fatalf("%.200s, %v: not %v", regex.Text(n), word, want)
		}
		if want {
			taken++
		}
	}
	return taken
}

func parsed(t *testing.T, text string) api.Node {
	t.Helper()
	n, _, e := regex.Parse(text)
	if e != api.OK {
		t.Fatalf("%s is not read", text)
	}
	return n
}

func TestP703OfEachKind(t *testing.T) {
	words := everyWord(4)
	for text, many := range map[string]int{"w": 1, "[wb]": 2, ".": 5, "0": 0, "_": 1, "wb": 1, "w.f": 5, "w|b": 2, "w|bb|_": 3, "w*": 5, "w+": 4, "w?": 2, "w{0,0}": 1, "w{0,2}": 3, "w{2,2}": 1, "w{2,3}": 2, "w{4,9}": 1, "w{5,9}": 0} {
		if taken := checkExpression(t, parsed(t, text), words); taken != many {
			t.Errorf("%s: %d words, not %d", text, taken, many)
		}
	}
}

func TestP703OfSomeInOneAnother(t *testing.T) {
	words := everyWord(4)
	for _, text := range []string{"w**", "(w*)+", "(w+)*", "(w?)*", "(w*)?", "(w?)+", "_*", "0*", "0+", "0?", "(w|b0)*", "(wb)*", "(wb|b)+w?", "(w*b*)*", "(w*b)*c", "w(b|c)*[ft]{1,3}", "((_|w)*|b){2,2}", "(w?){2,3}", "(w*){0,2}b", "(w{0,2}b){0,2}", "(w{2,2}){0,2}", "(_|bb){2,3}", "(w+b?)+c|t", "((w|b)(c|f))+", "(w*|b*){2,2}", "((wb)*|(bw)*)+", "(w|_)(b|_)(w|_)", "(.w)*|.?", "(w{0,0}b)*", "(w{0,0})+", ".*w.", "[wb]*w[wb]{2,2}", "(.*w.*b.*|c)?"} {
		n := parsed(t, text)
		checkExpression(t, n, words)
		for _, kind := range []int{api.KStar, api.KPlus, api.KMaybe} {
			checkExpression(t, api.Node{Kind: kind, L: []api.Node{n}}, words[:156])
		}
		for _, kind := range []int{api.KJoin, api.KUnion} {
			checkExpression(t, api.Node{Kind: kind, L: []api.Node{n, n}}, words[:156])
		}
		for _, times := range [][2]int{{0, 2}, {1, 2}, {2, 2}} {
			checkExpression(t, api.Node{Kind: api.KRepeat, Lo: times[0], Hi: times[1], L: []api.Node{n}}, words[:156])
		}
	}
}

func TestP703OfExpressionsByDice(t *testing.T) {
	d := dice(7030)
	words := everyWord(2)
	done := 0
	for range 400 {
		n := d.anyRight(3)
		many, e := nfa.Build(n)
		if e != api.OK {
			continue
		}
		if _, e := dfa.Subsets(many, 2000); e != api.OK {
			continue
		}
		some := slices.Clone(words)
		for range 20 {
			some = append(some, d.anyWord(9))
		}
		checkExpression(t, n, some)
		done++
	}
	if done < 300 {
		t.Errorf("only %d are built", done)
	}
}

// A w, and so many modes behind it, at the end: what is met last is told by no fewer states than a power of two.
func TestP703OfManyStates(t *testing.T) {
	d := dice(73)
	n := parsed(t, "[wb]*w[wb]{9,9}")
	many, _ := nfa.Build(n)
	one, e := dfa.Subsets(many, 2000)
	if e != api.OK || len(one.Next) < 1025 {
		t.Fatalf("%v, %d states", e, len(one.Next))
	}
	for range 3000 {
		var row []int
		for range d.below(40) {
			row = append(row, d.below(2))
		}
		want := len(row) >= 10 && row[len(row)-10] == 0
		if dfa.Run(one, row) != want {
			t.Fatalf("%v: not %v", row, want)
		}
	}
	many, _ = nfa.Build(parsed(t, "[wb]*w[wb]{9,9}[wb]"))
	checkLarge(t, many, 2000)
}

// odd are numbers that bounds are held against.
var odd = []int{-1, 0, 1, 2, 3, 5, 31, 32, 999, 1000, 1001, 2000, 2001, 20000, 1 << 31, 1 << 32, -1 << 31, math.MaxInt, math.MinInt}

func (d *dice) anyNumber() int {
	if d.below(3) == 0 {
		return odd[d.below(len(odd))]
	}
	return d.below(4)
}

// Of what is no machine nothing is promised but that each call ends, and that nothing is changed.
func TestP1OfWhatIsNoMachine(t *testing.T) {
	d := dice(1)
	for range 20000 {
		var m api.Dfa
		for range d.below(4) {
			m.Next = append(m.Next, [api.Modes]int{d.anyNumber(), d.anyNumber(), d.anyNumber(), d.anyNumber(), d.anyNumber()})
		}
		for range d.below(4) {
			m.Accept = append(m.Accept, d.below(2) == 0)
		}
		row := []int{d.anyNumber(), d.anyNumber(), d.anyNumber()}
		before, beforeRow := api.Dfa{Next: slices.Clone(m.Next), Accept: slices.Clone(m.Accept)}, slices.Clone(row)
		dfa.Check(m)
		dfa.Run(m, row)
		dfa.Run(m, nil)
		dfa.Go(m, d.anyNumber(), row)
		dfa.Go(m, d.anyNumber(), nil)
		if !isSame(m, before) || !slices.Equal(row, beforeRow) {
			t.Errorf("changed: %v, %v", m, row)
		}
	}
	for _, m := range []api.Dfa{{}, {Next: make([][api.Modes]int, 1)}, {Accept: make([]bool, 1)}, {Next: make([][api.Modes]int, 3000)}, sized(2, 1), sized(1, 2)} {
		for _, row := range [][]int{nil, {0}, {0, 4}, {5}, {-1, 0}} {
			dfa.Run(m, row)
			for _, state := range odd {
				dfa.Go(m, state, row)
			}
		}
	}
}

func TestP1SubsetsOfWhatIsNoMachine(t *testing.T) {
	d := dice(11)
	for range 20000 {
		n := api.Nfa{N: d.anyNumber(), Start: d.anyNumber(), End: d.anyNumber()}
		for range d.below(4) {
			n.Steps = append(n.Steps, api.Step{From: d.anyNumber(), To: d.anyNumber(), Set: d.anyNumber()})
			n.Free = append(n.Free, [2]int{d.anyNumber(), d.anyNumber()})
		}
		before := api.Nfa{N: n.N, Start: n.Start, End: n.End, Steps: slices.Clone(n.Steps), Free: slices.Clone(n.Free)}
		m, e := dfa.Subsets(n, d.anyNumber())
		if e != api.OK && (m.Next != nil || m.Accept != nil) || e == api.OK && !dfa.Check(m) {
			t.Errorf("Subsets of %v: %v, %v", n, e, m)
		}
		if n.N != before.N || n.Start != before.Start || n.End != before.End || !slices.Equal(n.Steps, before.Steps) || !slices.Equal(n.Free, before.Free) {
			t.Errorf("changed: %v", n)
		}
	}
	for _, n := range []api.Nfa{{}, {N: -1}, {N: math.MaxInt}, {N: 1, Start: 1}, {N: 1, End: -1}, {N: 1, Steps: make([]api.Step, 1)}, {N: 1, Free: [][2]int{{0, 1}}}, {N: 1, Free: make([][2]int, 20001)}, {N: 2, Steps: []api.Step{{To: 64, Set: 1}}}} {
		if m, e := dfa.Subsets(n, 2000); e != api.OK && (m.Next != nil || m.Accept != nil) {
			t.Errorf("%v: %v, %v", n, m, e)
		}
	}
}

// withRoom is the row with spare room behind it, filled with a sign.
func withRoom[T any](row []T, sign T) []T {
	return append(slices.Clone(row), sign, sign, sign)[:len(row)]
}

// whole is a copy of the row and its spare room.
func whole[T any](row []T) []T {
	return slices.Clone(row[:cap(row)])
}

// spoil fills a row and its spare room.
func spoil[T any](row []T, sign T) {
	for i := range row[:cap(row)] {
		row[:cap(row)][i] = sign
	}
}

func TestP2WhatIsHandedInIsNotChanged(t *testing.T) {
	m := machine(turns)
	m.Next, m.Accept = withRoom(m.Next, [api.Modes]int{-7}), withRoom(m.Accept, true)
	next, accept := whole(m.Next), whole(m.Accept)
	row := withRoom([]int{0, 1, 1, 4}, -7)
	before := whole(row)
	dfa.Check(m)
	dfa.Go(m, 1, row)
	dfa.Run(m, row)
	if !slices.Equal(whole(m.Next), next) || !slices.Equal(whole(m.Accept), accept) || !slices.Equal(whole(row), before) {
		t.Errorf("changed: %v, %v", m, row)
	}
	n := rounds(3, 4, 5)
	n.Steps, n.Free = withRoom(n.Steps, api.Step{From: -7}), withRoom(n.Free, [2]int{-7, -7})
	steps, free := whole(n.Steps), whole(n.Free)
	for _, most := range []int{1, 13, 14, 2000} {
		d, _ := dfa.Subsets(n, most)
		spoil(d.Next, [api.Modes]int{-8})
		spoil(d.Accept, true)
	}
	if !slices.Equal(whole(n.Steps), steps) || !slices.Equal(whole(n.Free), free) || n.N != 8 || n.Start != 0 || n.End != 3 {
		t.Errorf("changed: %v", n)
	}
}

func TestP2SubsetsAnswersNewMemory(t *testing.T) {
	for _, n := range []api.Nfa{made(1, 0, 0, nil, nil), made(1, 0, 0, []int{0, 0, 31}, nil), rounds(2, 3, 1), rounds(54, 37, 1), rounds(37, 27, 31)} {
		want := plainly(n)
		one, _ := dfa.Subsets(n, 2000)
		two, _ := dfa.Subsets(n, 2000)
		spoil(one.Next, [api.Modes]int{-9, -9, -9, -9, -9})
		if !slices.Equal(one.Accept, want.Accept) {
			t.Error("Next and Accept share")
		}
		spoil(one.Accept, true)
		if !isSame(two, want) {
			t.Error("two answers share")
		}
		checkSubsets(t, n, want)
		spoil(n.Steps, api.Step{From: -9})
		spoil(n.Free, [2]int{-9, -9})
		if !isSame(two, want) {
			t.Error("an answer shares with what was handed in")
		}
	}
}

// What is told of a machine hangs on what it is by then.
func TestP2NothingIsKept(t *testing.T) {
	m := machine("12222 22222! 22222")
	checkGo(t, m, 0, []int{0}, 1)
	m.Next[0] = [api.Modes]int{2, 1, 1, 1, 1}
	checkGo(t, m, 0, []int{0}, 2)
	if dfa.Run(m, []int{0}) || !dfa.Run(m, []int{1}) {
		t.Error("Run of one that was changed")
	}
	m.Accept[1] = false
	if dfa.Run(m, []int{1}) {
		t.Error("Run of one that was changed")
	}
	m.Next[2][4] = 3
	checkIs(t, "one that was changed", m, false)
	n := made(2, 0, 1, []int{0, 1, 1}, nil)
	checkSubsets(t, n, machine("12222 22222! 22222"))
	n.Steps[0].Set = 16
	checkSubsets(t, n, machine("11112 11111 11111!"))
	n.Steps[0].To = 0
	checkSubsets(t, n, machine("11110 11111"))
}

func TestP3TheSameCallsAnswerTheSame(t *testing.T) {
	d := dice(3)
	for range 300 {
		n := d.anyMany()
		one, e := dfa.Subsets(n, 8)
		two, f := dfa.Subsets(n, 8)
		if e != f || !isSame(one, two) {
			t.Errorf("%v: %v, %v; %v, %v", n, one, e, two, f)
		}
	}
}

// One that is too large for a cap is told by a greater one, as if it had not been asked for before.
func TestP5TooLargeChangesNothing(t *testing.T) {
	n := rounds(54, 37, 1)
	want := plainly(n)
	for _, most := range []int{1, 2, 500, 1999} {
		checkLarge(t, n, most)
		if d, e := dfa.Subsets(n, 2000); e != api.OK || !isSame(d, want) {
			t.Errorf("behind %d at most: %v", most, e)
		}
	}
}
