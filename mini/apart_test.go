package mini_test

import (
	"slices"
	"strings"
	"testing"

	"milestone/api"
	"milestone/dfa"
	"milestone/mini"
)

// word is a word by its signs; a dash is the word of none.
func word(signs string) []int {
	var modes []int
	for _, sign := range strings.Trim(signs, "-") {
		modes = append(modes, strings.IndexRune("wbcft", sign))
	}
	return modes
}

// checkApart asks both ways round.
func checkApart(t *testing.T, a, b api.Dfa, want []int, wantIs bool) {
	t.Helper()
	for _, row := range [][2]api.Dfa{{a, b}, {b, a}} {
		got, is := mini.Apart(row[0], row[1])
		if is != wantIs || !slices.Equal(got, want) || is && dfa.Run(a, got) == dfa.Run(b, got) {
			t.Errorf("Apart of %s, %s: %.100v %v, not %.100v %v", show(row[0]), show(row[1]), got, is, want, wantIs)
		}
	}
}

// checkBy takes the word by its signs; none is there, if there are no signs.
func checkBy(t *testing.T, a, b, signs string) {
	t.Helper()
	checkApart(t, machine(a), machine(b), word(signs), signs != "")
}

func TestP801ApartOfOneLanguage(t *testing.T) {
	checkBy(t, "00000", "00000", "")
	checkBy(t, "00000!", "00000!", "")
	checkBy(t, "00000!", "11111! 00000!", "")
	checkBy(t, "00000", "11111 22222 00000", "")
	checkBy(t, "12345 66666! 66666! 66666! 66666! 66666! 66666", "21111 00000! 22222", "w")
	checkBy(t, "12345 66666! 66666! 66666! 66666! 66666! 66666", "22222 00000! 33333! 33333", "")
	checkBy(t, "00000! 11111", "00000! 00000!", "")
	checkBy(t, "11111 00000! 43210 33333!", "33333 11111! 22222 44444! 00000", "")
	checkBy(t, "11111! 22222 00000", "11111! 22222 33333 44444! 55555 00000", "")
}

func TestP801ApartByTheWordOfNone(t *testing.T) {
	checkBy(t, "00000", "00000!", "-")
	checkBy(t, "11111 11111", "11111! 11111", "-")
	checkBy(t, "11111! 00000", "11111 00000!", "-")
	checkBy(t, "00000!", "11111 11111!", "-")
}

func TestP801ApartByOneMode(t *testing.T) {
	for mode, sign := range "wbcft" {
		for _, others := range []int{0, 2} {
			with, without := sized(3), sized(3)
			for _, d := range []api.Dfa{with, without} {
				d.Next[0], d.Next[1], d.Next[2] = to(others), to(2), to(2)
			}
			with.Next[0][mode], without.Next[0][mode] = 1, 2
			with.Accept[1], without.Accept[1] = true, true
			checkApart(t, with, without, word(string(sign)), true)
		}
	}
}

// Shorter ones go first, then those whose first mode that differs is the lesser one; the numbers of states do not count.
func TestP801ApartOfSeveralWords(t *testing.T) {
	none := "00000"
	checkBy(t, none, "11111 11111!", "w")
	checkBy(t, none, "01111 11111!", "b")
	checkBy(t, none, "00011 11111!", "f")
	checkBy(t, none, "10002 30000 44444! 44444! 44444", "t")
	checkBy(t, none, "21111 44444 44443 44444! 44444", "wt")
	checkBy(t, none, "12222 44443 30444 44444! 44444", "wt")
	checkBy(t, none, "12222 44444 43434 44444! 44444", "bb")
	checkBy(t, none, "44441 32222 22222 33333! 22222", "tw")
	checkBy(t, none, "42514 55555 53555 66666! 55533 53355 55555", "wf")
	checkBy(t, "42514 55555 53555 66666! 55533 53355 55555", "54321 55555 55555 55555 55555 55555", "wf")
}

func TestP801ApartByALongWordAlone(t *testing.T) {
	for _, signs := range []string{"w", "wb", "twwt", "cfcfcfcfcb", strings.Repeat("w", 34), strings.Repeat("t", 1000), strings.Repeat("wbcft", 399)} {
		row := word(signs)
		d := only(row...)
		none := clone(d)
		clear(none.Accept)
		checkApart(t, d, none, row, true)
		checkApart(t, d, sized(1), row, true)
		row[len(row)-1] = 3 - row[len(row)-1]%2
		first := word(signs)
		if slices.Compare(row, first) < 0 {
			first = row
		}
		checkApart(t, d, only(row...), first, true)
	}
}

// Two rounds of so many states may agree on all words but those of as many modes as both together have states, but two.
func TestP801ApartOfRounds(t *testing.T) {
	for _, many := range []int{2, 3, 10, 200, 1999} {
		a, b := round(many, many, many-1), round(many+1, many+1, many-1)
		checkApart(t, a, b, make([]int, 2*many-1), true)
	}
	checkApart(t, round(1999, 1999, 0), round(2000, 2000, 0), make([]int, 1999), true)
	checkApart(t, round(1999, 1999, 5), round(2000, 1, 1), make([]int, 5), true)
	checkApart(t, round(1999, 1, 1), round(2000, 1, 1), nil, false)
	checkApart(t, round(1999, 1, 0), round(2000, 1, 0), nil, false)
	checkApart(t, round(2000, 40, 7), round(1960, 40, 7), nil, false)
	checkApart(t, round(2000, 40, 7), round(1960, 20, 7), make([]int, 27), true)
}

// plainApart goes through all pairs of states, in the order of the words that lead to them.
func plainApart(a, b api.Dfa) ([]int, bool) {
	type pair struct{ one, two int }
	words := map[pair][]int{{}: nil}
	for pairs := []pair{{}}; len(pairs) > 0; pairs = pairs[1:] {
		p := pairs[0]
		if a.Accept[p.one] != b.Accept[p.two] {
			return words[p], true
		}
		for mode := range api.Modes {
			next := pair{a.Next[p.one][mode], b.Next[p.two][mode]}
			if _, is := words[next]; !is {
				words[next] = append(slices.Clone(words[p]), mode)
				pairs = append(pairs, next)
			}
		}
	}
	return nil, false
}

// mended is m with one of its numbers changed, or which of its states accept.
func (d *dice) mended(m api.Dfa) api.Dfa {
	m = clone(m)
	state := d.below(len(m.Next))
	if d.below(4) == 0 {
		m.Accept[state] = !m.Accept[state]
	} else {
		m.Next[state][d.below(api.Modes)] = d.below(len(m.Next))
	}
	return m
}

func TestP801ApartByDice(t *testing.T) {
	d := dice(8014)
	longest, alike := 0, 0
	for i := range 6000 {
		a := d.anyMachine(1+d.below(12), 1+d.below(5))
		b := d.anyMachine(1+d.below(12), 1+d.below(5))
		if i%2 == 0 {
			b = d.mended(d.several(a, len(a.Next)*(1+d.below(3))))
		}
		want, is := plainApart(a, b)
		checkApart(t, a, b, want, is)
		longest = max(longest, len(want))
		if !is {
			alike++
		}
	}
	if longest < 6 || alike < 500 {
		t.Errorf("%d modes at most, %d of one language", longest, alike)
	}
}

// Where few modes lead on, words that tell apart are longer.
func TestP801ApartOfThinMachinesByDice(t *testing.T) {
	d := dice(8015)
	longest := 0
	for range 3000 {
		a := d.thin(1 + d.below(15))
		b := d.mended(d.several(a, 2*len(a.Next)))
		want, is := plainApart(a, b)
		checkApart(t, a, b, want, is)
		longest = max(longest, len(want))
	}
	if longest < 14 {
		t.Errorf("%d modes at most", longest)
	}
}

// thin is a machine of which one state accepts, and from each of whose states one mode leads on, the others back, or stay.
func (d *dice) thin(many int) api.Dfa {
	m := sized(many)
	for state := range many {
		m.Next[state] = to(d.below(state + 1))
		m.Next[state][d.below(api.Modes)] = min(state+1, many-1)
	}
	m.Accept[d.below(many)] = true
	return m
}

// All pairs of machines of two states whose modes but t lead to one state.
func TestP801ApartOfAllSmallMachines(t *testing.T) {
	var all []api.Dfa
	everyMachine(2, 2, func(d api.Dfa) {
		for state := range d.Next {
			row := &d.Next[state]
			row[1], row[4] = row[4], row[1]
		}
		all = append(all, d)
	})
	for _, a := range all {
		for _, b := range all {
			want, is := plainApart(a, b)
			checkApart(t, a, b, want, is)
		}
	}
}

// A word is the first one of all that just one of both takes.
func TestP801ApartAmongAllWords(t *testing.T) {
	d := dice(8016)
	words := everyWord(4)
	for range 500 {
		a, b := d.anyMachine(1+d.below(5), 5), d.anyMachine(1+d.below(5), 5)
		at := slices.IndexFunc(words, func(row []int) bool { return dfa.Run(a, row) != dfa.Run(b, row) })
		if at >= 0 {
			checkApart(t, a, b, words[at], true)
		}
	}
}

// Two have one language just where they have one least machine.
func TestP801ApartOfLeastMachines(t *testing.T) {
	d := dice(8017)
	for range 1000 {
		a := d.anyMachine(1+d.below(6), 1+d.below(3))
		b := d.mended(a)
		_, is := mini.Apart(a, b)
		if is == mini.Same(mini.Minimize(a), mini.Minimize(b)) {
			t.Errorf("%s, %s: %v", show(a), show(b), is)
		}
		checkApart(t, a, mini.Minimize(a), nil, false)
	}
}

func checkSteady(t *testing.T, d api.Dfa, want bool) {
	t.Helper()
	if mini.Steady(d) != want {
		t.Errorf("Steady of %s: not %v", show(d), want)
	}
}

// The chapter's example.
func TestP801SteadyOfOneState(t *testing.T) {
	checkSteady(t, machine("00000"), true)
	checkSteady(t, machine("00000!"), true)
}

func TestP801SteadyOfSome(t *testing.T) {
	checkSteady(t, machine("11111 11111!"), true)
	checkSteady(t, machine("11111! 00000"), false)
	checkSteady(t, machine("11111 22222 22222"), false)
	checkSteady(t, machine("12345 12345 12345 12345 12345 12345"), true)
	checkSteady(t, machine("12345! 12345 12345! 12345 12345! 12345"), true)
	checkSteady(t, machine("01234 01234 01234 01234 01234"), true)
	checkSteady(t, machine("10000 10000"), true)
	checkSteady(t, machine("10000 00000"), false)
	checkSteady(t, machine("11111 20000 20000"), false)
	checkSteady(t, machine("12222 10000 02222"), false)
	checkSteady(t, machine("12222 12222 02222"), false)
	checkSteady(t, machine("12222 12222 22222"), true)
}

// Which states accept does not count, and each state does, though no word leads to it.
func TestP801SteadyOfStatesThatAreNotReached(t *testing.T) {
	checkSteady(t, machine("00000! 22222 22222"), true)
	checkSteady(t, machine("00000! 22222 11111"), false)
	checkSteady(t, machine("00000! 00000"), true)
	checkSteady(t, machine("00000! 00002 00001"), false)
	checkSteady(t, machine("00000! 00002! 00002!"), true)
	checkSteady(t, machine("00000 00000 11111"), false)
}

// Where just one mode of one state leads on to another than it leads to once more, it is not steady.
func TestP801SteadyAtEachStateAndMode(t *testing.T) {
	for _, many := range []int{3, 4, 17, 2000} {
		d := sized(many)
		for state := range many {
			d.Next[state] = to(many - 1)
		}
		checkSteady(t, d, true)
		for _, state := range []int{0, 1, many / 2, many - 2} {
			for mode := range api.Modes {
				d.Next[state][mode] = state
				checkSteady(t, d, true) // it stays
				other := (state + 1) % (many - 1)
				d.Next[state][mode] = other
				checkSteady(t, d, false) // on to another, from which it leads to the last one
				d.Next[other][mode] = other
				checkSteady(t, d, true)
				d.Next[other][mode] = state
				checkSteady(t, d, false) // to and fro
				d.Next[state][mode], d.Next[other][mode] = many-1, many-1
			}
		}
		for mode := range api.Modes {
			d.Next[many-1][mode] = 0
			checkSteady(t, d, false)
			d.Next[0][mode] = 0
			checkSteady(t, d, false) // the others lead to the last one, which leads on
			d.Next[0][mode], d.Next[many-1][mode] = many-1, many-1
		}
		checkSteady(t, d, true)
	}
}

func TestP801SteadyByDice(t *testing.T) {
	d := dice(8018)
	steady := 0
	try := func(one api.Dfa) {
		want := true
		for state := range one.Next {
			for mode := range api.Modes {
				want = want && dfa.Go(one, state, []int{mode}) == dfa.Go(one, state, []int{mode, mode})
			}
		}
		checkSteady(t, one, want)
		if want {
			steady++
		}
	}
	for _, many := range []int{1, 2} {
		everyMachine(many, api.Modes, try)
	}
	everyMachine(3, 2, try)
	for range 2000 {
		one := d.anyMachine(1+d.below(4), 1+d.below(3))
		for range 3 {
			for state, row := range one.Next {
				for mode, to := range row {
					one.Next[state][mode] = one.Next[to][mode]
				}
			}
			try(one)
		}
	}
	if steady < 1000 {
		t.Errorf("%d are steady", steady)
	}
}
