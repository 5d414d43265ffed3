package mini_test

import (
	"slices"
	"strconv"
	"strings"
	"testing"

	"milestone/api"
	"milestone/dfa"
	"milestone/mini"
)

const digits = "0123456789abcdefghijklmnopqrstuvwxyz"

// machine is one of few states: of each, where each mode leads, and a ! if it accepts.
func machine(rows string) api.Dfa {
	var d api.Dfa
	for _, signs := range strings.Fields(rows) {
		var row [api.Modes]int
		for mode := range row {
			row[mode] = strings.IndexByte(digits, signs[mode])
		}
		d.Next = append(d.Next, row)
		d.Accept = append(d.Accept, strings.HasSuffix(signs, "!"))
	}
	return d
}

// show writes a machine of few states as machine reads it, of a larger one how many there are.
func show(d api.Dfa) string {
	if len(d.Next) > len(digits) || !dfa.Check(d) {
		return strconv.Itoa(len(d.Next)) + " states"
	}
	var rows []string
	for state, row := range d.Next {
		signs := ""
		for _, to := range row {
			signs += digits[to : to+1]
		}
		if d.Accept[state] {
			signs += "!"
		}
		rows = append(rows, signs)
	}
	return strings.Join(rows, " ")
}

// sized is a machine of so many states, all of whose modes lead to 0.
func sized(many int) api.Dfa {
	return api.Dfa{Next: make([][api.Modes]int, many), Accept: make([]bool, many)}
}

// to is a row all of whose modes lead there.
func to(state int) [api.Modes]int {
	return [api.Modes]int{state, state, state, state, state}
}

// round is a machine whose modes all lead once round its states, of which it accepts in one of so many, from this one on.
func round(many, oneOf, from int) api.Dfa {
	d := sized(many)
	for state := range many {
		d.Next[state] = to((state + 1) % many)
		d.Accept[state] = state%oneOf == from
	}
	return d
}

// only is the machine, of as many states as are needed, that takes just this word.
func only(word ...int) api.Dfa {
	d := sized(len(word) + 2)
	for state := range d.Next {
		d.Next[state] = to(len(word) + 1)
	}
	for state, mode := range word {
		d.Next[state][mode] = state + 1
	}
	d.Accept[len(word)] = true
	return numbered(d)
}

func clone(d api.Dfa) api.Dfa {
	return api.Dfa{Next: slices.Clone(d.Next), Accept: slices.Clone(d.Accept)}
}

func isSame(d, e api.Dfa) bool {
	return slices.Equal(d.Next, e.Next) && slices.Equal(d.Accept, e.Accept)
}

// otherwise is d with its states numbered another way: state becomes number[state].
func otherwise(d api.Dfa, number []int) api.Dfa {
	other := sized(len(d.Next))
	for state, row := range d.Next {
		for mode, to := range row {
			row[mode] = number[to]
		}
		other.Next[number[state]] = row
		other.Accept[number[state]] = d.Accept[state]
	}
	return other
}

// numbered is d without the states that are not met from 0, the others as they are met.
func numbered(d api.Dfa) api.Dfa {
	met := []int{0}
	for at := 0; at < len(met); at++ {
		for _, to := range d.Next[met[at]] {
			if !slices.Contains(met, to) {
				met = append(met, to)
			}
		}
	}
	var out api.Dfa
	for _, state := range met {
		row := d.Next[state]
		for mode, to := range row {
			row[mode] = slices.Index(met, to)
		}
		out.Next = append(out.Next, row)
		out.Accept = append(out.Accept, d.Accept[state])
	}
	return out
}

// told is, of any two states, whether a word tells them apart: those of which one accepts, and those from which a mode leads to such, until there are no more.
func told(d api.Dfa) [][]bool {
	apart := make([][]bool, len(d.Next))
	for i := range apart {
		apart[i] = make([]bool, len(d.Next))
	}
	for more := true; more; {
		more = false
		for i := range apart {
			for k := range i {
				is := d.Accept[i] != d.Accept[k]
				for mode := range api.Modes {
					is = is || apart[d.Next[i][mode]][d.Next[k][mode]]
				}
				if is && !apart[i][k] {
					apart[i][k], apart[k][i], more = true, true, true
				}
			}
		}
	}
	return apart
}

// plainly is the least machine: of states that no word tells apart the first one stands for all.
func plainly(d api.Dfa) api.Dfa {
	apart := told(d)
	one := clone(d)
	for i := range one.Next {
		for mode, to := range one.Next[i] {
			one.Next[i][mode] = slices.Index(apart[to], false)
		}
	}
	return numbered(one)
}

// checkLeast holds Minimize of d against want; want stays as it is.
func checkLeast(t *testing.T, d, want api.Dfa) {
	t.Helper()
	for _, one := range []api.Dfa{d, want} {
		if got := mini.Minimize(one); !isSame(got, want) || !dfa.Check(got) {
			t.Errorf("Minimize of %s: %s, not %s", show(one), show(got), show(want))
		}
	}
}

func TestP801MinimizeOfOneState(t *testing.T) {
	checkLeast(t, machine("00000"), machine("00000"))
	checkLeast(t, machine("00000!"), machine("00000!"))
}

func TestP801MinimizeOfStatesThatAreNotReached(t *testing.T) {
	checkLeast(t, machine("00000! 00000"), machine("00000!"))
	checkLeast(t, machine("00000 11111!"), machine("00000"))
	checkLeast(t, machine("22222 01234! 22222! 43210! 33333"), machine("11111 11111!"))
	checkLeast(t, machine("44444! 33333 11111! 11111 00003 55555!"), machine("11111! 00002 22222"))
	checkLeast(t, machine("00005 22222! 11111 11111! 33333 00500!"), machine("00001 00100!"))
}

func TestP801MinimizeOfStatesThatNoWordTellsApart(t *testing.T) {
	checkLeast(t, machine("11111 22222! 11111!"), machine("11111 11111!"))
	checkLeast(t, machine("12345 66666! 66666! 66666! 66666! 66666! 66666"), machine("11111 22222! 22222"))
	checkLeast(t, machine("12345 66666! 66666! 66666! 66666 66666! 66666"), machine("11121 22222! 22222"))
	checkLeast(t, machine("12345 66666! 66666! 66666! 66666 66662 66666"), machine("11123 22222! 22222 22221"))
	checkLeast(t, machine("11111 22222 33333! 44444 55555 00000!"), machine("11111 22222 00000!"))
	checkLeast(t, machine("11111 22222 33333! 44444! 55555 00000!"), machine("11111 22222 33333! 44444! 55555 00000!"))
	checkLeast(t, machine("12000! 12000! 12000!"), machine("00000!"))
}

func TestP801MinimizeOfAllOrNone(t *testing.T) {
	d := dice(8010)
	for _, many := range []int{1, 2, 3, 5, 10, 64, 199, 200, 201, 1000, 1999, 2000} {
		one := d.anyMachine(many, 5)
		for state := range one.Accept {
			one.Accept[state] = true
		}
		checkLeast(t, one, machine("00000!"))
		clear(one.Accept)
		checkLeast(t, one, machine("00000"))
	}
}

// States are numbered state by state, mode by mode, whichever numbers they had.
func TestP801MinimizeOfNumbers(t *testing.T) {
	checkLeast(t, machine("54321 11111! 01111 00111 00011 00001"), machine("12345 00005 00055 00555 05555 55555!"))
	checkLeast(t, machine("02222! 33333 11111 00000"), machine("01111! 22222 33333 00000"))
	checkLeast(t, machine("00001! 20000 34000 00000 00002"), machine("00001! 20000 34000 00000 00002")) // 3 takes what 0 does, but that it does not accept
	checkLeast(t, machine("00003! 40000 00001 20000 00000"), machine("00001! 20000 00003 40000 00000"))
	checkLeast(t, machine("31111 22222! 22222 41111 11111"), machine("12222 32222 44444! 22222 44444"))
}

// orders goes through all orders of the numbers from 0 on, 0 staying the first.
func orders(many int, yield func(number []int)) {
	number := make([]int, many)
	used := make([]bool, many)
	var put func(at int)
	put = func(at int) {
		if at == many {
			yield(number)
		}
		for n := 1; at < many && n < many; n++ {
			if !used[n] {
				number[at], used[n] = n, true
				put(at + 1)
				used[n] = false
			}
		}
	}
	put(1)
}

func TestP801MinimizeOfOtherNumbers(t *testing.T) {
	for _, rows := range []string{"00000!", "12222 22222! 22222", "12345 00005 00055 00555 05555 55555!", "01111! 22222 33333 00000", "11111 22222 33333! 44444! 55555 00000!", "11123 22222! 22222 22221"} {
		want := machine(rows)
		orders(len(want.Next), func(number []int) {
			checkLeast(t, otherwise(want, number), want)
		})
	}
	d := dice(8011)
	for range 300 {
		one := d.anyMachine(1+d.below(12), 1+d.below(5))
		want := plainly(one)
		for range 5 {
			checkLeast(t, otherwise(one, d.anyNumbers(len(one.Next))), want)
		}
	}
}

func TestP801MinimizeOfEachStateSeveralTimes(t *testing.T) {
	d := dice(8012)
	for range 300 {
		want := plainly(d.anyMachine(1+d.below(8), 1+d.below(5)))
		checkLeast(t, d.several(want, 2*len(want.Next)), want)
		checkLeast(t, d.several(want, 7*len(want.Next)), want)
	}
}

// All machines of one and two states, and all of three whose modes but b lead where w leads.
func TestP801MinimizeOfAllSmallMachines(t *testing.T) {
	for _, many := range []int{1, 2} {
		everyMachine(many, api.Modes, func(d api.Dfa) { checkLeast(t, d, plainly(d)) })
	}
	everyMachine(3, 2, func(d api.Dfa) { checkLeast(t, d, plainly(d)) })
}

// everyMachine goes through all machines of so many states, the first few modes of which lead anywhere, the others where w leads.
func everyMachine(many, modes int, yield func(d api.Dfa)) {
	all := 1 << many
	for range many * modes {
		all *= many
	}
	for which := range all {
		d := sized(many)
		for state := range many {
			d.Accept[state] = which%2 == 1
			which /= 2
		}
		for state := range many {
			for mode := range api.Modes {
				d.Next[state][mode] = d.Next[state][0]
				if mode < modes {
					d.Next[state][mode] = which % many
					which /= many
				}
			}
		}
		yield(d)
	}
}

func TestP801MinimizeByDice(t *testing.T) {
	d := dice(801)
	most := 0
	for range 3000 {
		one := d.anyMachine(1+d.below(20), 1+d.below(5))
		want := plainly(one)
		checkLeast(t, one, want)
		most = max(most, len(want.Next))
		for range 10 {
			if row := d.anyWord(12); dfa.Run(want, row) != dfa.Run(one, row) {
				t.Fatalf("%s, %s by %v", show(one), show(want), row)
			}
		}
	}
	if most < 15 {
		t.Errorf("%d states at most", most)
	}
}

func TestP801MinimizeOfManyStates(t *testing.T) {
	for _, many := range []int{63, 64, 65, 200, 256, 257, 2000} {
		chain := only(slices.Repeat([]int{0}, many-2)...)
		chain.Accept[3] = true // w w, too
		checkLeast(t, chain, chain)
	}
	back := sized(2000)
	for state := range 2000 {
		back.Next[state] = to((state + 1999) % 2000)
	}
	back.Accept[1] = true
	checkLeast(t, back, round(2000, 2000, 1999))
	for _, least := range []int{2, 4, 5, 8, 10, 100, 125, 200, 400, 1000} {
		for _, from := range []int{0, least - 1} {
			checkLeast(t, round(2000, least, from), round(least, least, from))
		}
	}
	checkLeast(t, round(1999, 2, 0), round(1999, 2, 0))
	far := round(2000, 7, 3)
	far.Next[0] = to(0)
	checkLeast(t, far, machine("00000"))
}

func TestP801MinimizeOfManyStatesByDice(t *testing.T) {
	d := dice(8013)
	one := d.anyMachine(2000, 5)
	want := mini.Minimize(one)
	if !isSame(want, numbered(one)) {
		t.Errorf("%d states", len(want.Next))
	}
	small := plainly(d.anyMachine(40, 3))
	checkLeast(t, d.several(small, 2000), small)
	checkLeast(t, otherwise(one, d.anyNumbers(2000)), want)
}

func checkSame(t *testing.T, a, b api.Dfa, want bool) {
	t.Helper()
	if mini.Same(a, b) != want || mini.Same(b, a) != want {
		t.Errorf("Same of %s, %s: not %v", show(a), show(b), want)
	}
}

func TestP801SameOfOnesThatAreEqual(t *testing.T) {
	for _, d := range []api.Dfa{machine("00000"), machine("00000!"), machine("12345 66666! 66666! 66666! 66666 66662 66666"), machine("00000 00000 00000!"), round(2000, 3, 1)} {
		checkSame(t, d, d, true)
		checkSame(t, d, clone(d), true)
		roomy := api.Dfa{Next: withRoom(d.Next, to(7)), Accept: withRoom(d.Accept, true)}
		checkSame(t, d, roomy, true)
		checkSame(t, roomy, api.Dfa{Next: withRoom(d.Next, to(8)), Accept: withRoom(d.Accept, false)}, true)
	}
}

func TestP801SameOfOnesThatDifferInOneNumber(t *testing.T) {
	for _, d := range []api.Dfa{machine("10000 01010!"), machine("12345 66666! 66666! 66666! 66666 66662 66666"), round(2000, 3, 1)} {
		many := len(d.Next)
		for _, state := range []int{0, 1, many / 2, many - 2, many - 1} {
			for mode := range api.Modes {
				other := clone(d)
				for more := 1; more < min(many, 4); more++ {
					other.Next[state][mode] = (d.Next[state][mode] + more) % many
					checkSame(t, d, other, false)
				}
			}
			other := clone(d)
			other.Accept[state] = !other.Accept[state]
			checkSame(t, d, other, false)
		}
	}
}

func TestP801SameOfOnesOfOtherSizes(t *testing.T) {
	checkSame(t, machine("00000"), machine("00000!"), false)
	checkSame(t, machine("00000"), machine("00000 00000"), false)
	checkSame(t, machine("00000!"), machine("00000! 00000"), false)
	checkSame(t, machine("11111 00000!"), machine("11111 00000! 00000"), false)
	checkSame(t, sized(1999), sized(2000), false)
	checkSame(t, sized(1), sized(2000), false)
}

// Those of one language are the same only where their numbers are.
func TestP801SameAsksForNumbersAlone(t *testing.T) {
	checkSame(t, machine("12222 22222! 22222"), machine("21111 11111 11111!"), false)
	checkSame(t, machine("11111! 00000!"), machine("00000!"), false)
	checkSame(t, machine("11111! 00000!"), machine("00000! 11111!"), false)
	checkSame(t, machine("00000! 00000"), machine("00000! 00000!"), false)
	for _, rows := range []string{"12222 22222! 22222", "12345 00005 00055 00555 05555 55555!"} {
		d := machine(rows)
		orders(len(d.Next), func(number []int) {
			checkSame(t, d, otherwise(d, number), slices.IsSorted(number))
		})
	}
}
