package mini_test

import (
	"math"
	"slices"
	"testing"

	"milestone/api"
	"milestone/dfa"
	"milestone/mini"
)

// odd are numbers that bounds are held against.
var odd = []int{-1, 0, 1, 2, 3, 5, 199, 200, 1999, 2000, 2001, 1 << 31, 1 << 32, -1 << 31, math.MaxInt, math.MinInt}

func (d *dice) anyNumber() int {
	if d.below(4) == 0 {
		return odd[d.below(len(odd))]
	}
	return d.below(3)
}

// call calls each face with machines that may be none.
func call(a, b api.Dfa) {
	mini.Minimize(a)
	mini.Same(a, b)
	mini.Apart(a, b)
	mini.Apart(b, a)
	mini.Steady(a)
}

// Of what is no machine nothing is promised but that each call ends, and that nothing is changed.
func TestP1OfWhatIsNoMachine(t *testing.T) {
	d := dice(1)
	right := machine("12222 22222! 22222")
	for range 20000 {
		var m api.Dfa
		for range d.below(4) {
			m.Next = append(m.Next, [api.Modes]int{d.anyNumber(), d.anyNumber(), d.anyNumber(), d.anyNumber(), d.anyNumber()})
		}
		for range d.below(4) {
			m.Accept = append(m.Accept, d.below(2) == 0)
		}
		before := clone(m)
		call(m, right)
		call(m, m)
		if !isSame(m, before) || !isSame(right, machine("12222 22222! 22222")) {
			t.Errorf("changed: %v, %v", m, right)
		}
	}
	large := sized(2001)
	for state := range 2001 {
		large.Next[state] = to((state + 1) % 2001)
	}
	for _, m := range []api.Dfa{{}, {Next: [][api.Modes]int{}, Accept: []bool{}}, {Next: make([][api.Modes]int, 1)}, {Accept: make([]bool, 1)}, {Next: make([][api.Modes]int, 2), Accept: make([]bool, 1)}, {Next: make([][api.Modes]int, 1), Accept: make([]bool, 2)}, {Next: make([][api.Modes]int, 3000), Accept: make([]bool, 3000)}, large} {
		call(m, right)
		call(m, m)
		call(m, large)
	}
}

// roomy is d with spare room behind its lists.
func roomy(d api.Dfa) api.Dfa {
	return api.Dfa{Next: withRoom(d.Next, to(-7)), Accept: withRoom(d.Accept, true)}
}

func TestP2WhatIsHandedInIsNotChanged(t *testing.T) {
	d := dice(2)
	for range 300 {
		a, b := roomy(d.anyMachine(1+d.below(9), 5)), roomy(d.anyMachine(1+d.below(9), 2))
		if d.below(3) == 0 {
			b = roomy(a)
		}
		beforeA := api.Dfa{Next: whole(a.Next), Accept: whole(a.Accept)}
		beforeB := api.Dfa{Next: whole(b.Next), Accept: whole(b.Accept)}
		call(a, b)
		least := mini.Minimize(a)
		spoil(least.Next, to(-8))
		spoil(least.Accept, false)
		row, _ := mini.Apart(a, b)
		spoil(row, -8)
		for _, one := range [][2]api.Dfa{{a, beforeA}, {b, beforeB}} {
			if !slices.Equal(whole(one[0].Next), one[1].Next) || !slices.Equal(whole(one[0].Accept), one[1].Accept) {
				t.Fatalf("changed: %v, %v", one[0], one[1])
			}
		}
	}
}

// Machines that are least, and numbered as they are met, are new ones, too.
func TestP2MinimizeAnswersNewMemory(t *testing.T) {
	for _, rows := range []string{"00000!", "12222 22222! 22222", "11111 22222! 11111!", "54321 11111! 01111 00111 00011 00001"} {
		d := machine(rows)
		want := plainly(d)
		one, two := mini.Minimize(d), mini.Minimize(d)
		spoil(one.Next, to(-9))
		if !slices.Equal(one.Accept, want.Accept) {
			t.Errorf("%s: Next and Accept share", rows)
		}
		spoil(one.Accept, true)
		if !isSame(two, want) {
			t.Errorf("%s: two answers share", rows)
		}
		checkLeast(t, d, want)
		spoil(d.Next, to(-9))
		spoil(d.Accept, true)
		if !isSame(two, want) {
			t.Errorf("%s: an answer shares with what was handed in", rows)
		}
	}
}

func TestP2CompileAnswersNewMemory(t *testing.T) {
	for _, text := range []string{"0", ".*", "w", "w(b|[tf])*", "w{9,9}{9,9}"} {
		want := clone(compiled(t, text))
		one, two := compiled(t, text), compiled(t, text)
		spoil(one.Next, to(-9))
		spoil(one.Accept, true)
		if !isSame(two, want) || !isSame(compiled(t, text), want) {
			t.Errorf("%s: two answers share", text)
		}
	}
}

func TestP2ApartAnswersNewMemory(t *testing.T) {
	a, b := machine("10000 20000 00000!"), machine("10000 20000 30000 00000!")
	one, _ := mini.Apart(a, b)
	two, _ := mini.Apart(a, b)
	spoil(one, -9)
	if !slices.Equal(two, []int{0, 0}) {
		t.Errorf("two answers share: %v", two)
	}
	checkApart(t, a, b, []int{0, 0}, true)
	spoil(a.Next, to(-9))
	if !slices.Equal(two, []int{0, 0}) {
		t.Errorf("an answer shares with what was handed in: %v", two)
	}
}

// What is told of a machine hangs on what it is by then.
func TestP2NothingIsKept(t *testing.T) {
	d := machine("12222 22222! 22222")
	checkLeast(t, d, machine("12222 22222! 22222"))
	checkApart(t, d, machine("00000"), []int{0}, true)
	checkSteady(t, d, false)
	d.Next[0] = [api.Modes]int{2, 2, 2, 2, 1}
	checkLeast(t, d, machine("11112 11111 11111!"))
	checkApart(t, d, machine("00000"), []int{4}, true)
	d.Accept[1] = false
	checkLeast(t, d, machine("00000"))
	checkApart(t, d, machine("00000"), nil, false)
	d.Next[0] = to(2)
	d.Next[1] = to(1)
	checkSteady(t, d, true)
	checkSame(t, d, machine("22222 11111 22222"), true)
}

func TestP3TheSameCallsAnswerTheSame(t *testing.T) {
	d := dice(3)
	for range 500 {
		a, b := d.anyMachine(1+d.below(9), 1+d.below(5)), d.anyMachine(1+d.below(9), 1+d.below(5))
		one, isOne := mini.Apart(a, b)
		two, isTwo := mini.Apart(clone(a), clone(b))
		if !isSame(mini.Minimize(a), mini.Minimize(clone(a))) || isOne != isTwo || !slices.Equal(one, two) || mini.Steady(a) != mini.Steady(clone(a)) {
			t.Errorf("%s, %s", show(a), show(b))
		}
	}
	for range 300 {
		text := d.anyText()
		one, e := mini.Compile(text)
		two, f := mini.Compile(text)
		if e != f || !isSame(one, two) {
			t.Errorf("%s: %s, %s", text, show(one), show(two))
		}
	}
}

// P4: beside a false there is no word.
func TestP4ApartAnswersNoWordBesideFalse(t *testing.T) {
	d := dice(4)
	for range 300 {
		a := d.anyMachine(1+d.below(9), 1+d.below(5))
		if row, is := mini.Apart(a, d.several(a, 3*len(a.Next))); is || len(row) > 0 {
			t.Errorf("%s: %v, %v", show(a), row, is)
		}
	}
}

// A text that was refused changes nothing of those that follow.
func TestP5RefusedTextsChangeNothing(t *testing.T) {
	want := clone(compiled(t, "w(b|[tf])*"))
	for _, text := range []string{"", "w(", "w{9,9}{9,9}{9,9}", "[wb]*w[wb]{7,7}"} {
		if _, e := mini.Compile(text); e == api.OK {
			t.Errorf("%s is compiled", text)
		}
		if d := compiled(t, "w(b|[tf])*"); !isSame(d, want) || !dfa.Check(d) {
			t.Errorf("behind %s: %s", text, show(d))
		}
	}
}
