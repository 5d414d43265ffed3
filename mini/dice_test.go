package mini_test

import (
	"slices"

	"milestone/api"
)

// dice throws the same numbers each time.
type dice uint64

func (d *dice) below(n int) int {
	*d = *d*6364136223846793005 + 1442695040888963407
	return int(uint64(*d)>>33) % n
}

// anyMachine is one of so many states, the first few modes of which lead anywhere, the others to where w leads.
func (d *dice) anyMachine(many, modes int) api.Dfa {
	m := sized(many)
	rare := 2 + d.below(6)
	for state := range many {
		m.Next[state] = to(d.below(many))
		for mode := 1; mode < modes; mode++ {
			m.Next[state][mode] = d.below(many)
		}
		m.Accept[state] = d.below(rare) == 0
	}
	return m
}

// anyNumbers is the numbers from 0 on in some order, 0 staying the first.
func (d *dice) anyNumbers(many int) []int {
	number := make([]int, many)
	for i := range number {
		number[i] = i
	}
	for i := many - 1; i > 1; i-- {
		k := 1 + d.below(i)
		number[i], number[k] = number[k], number[i]
	}
	return number
}

// several is a machine of so many states, each of which stands for one of m's: state for state % as many as there are. Its modes lead to any that stands for where m's lead.
func (d *dice) several(m api.Dfa, many int) api.Dfa {
	one := sized(many)
	least := len(m.Next)
	for state := range many {
		for mode, to := range m.Next[state%least] {
			one.Next[state][mode] = to + least*d.below((many-to+least-1)/least)
		}
		one.Accept[state] = m.Accept[state%least]
	}
	return one
}

func (d *dice) anyWord(most int) []int {
	var word []int
	for range d.below(most + 1) {
		word = append(word, d.below(api.Modes))
	}
	return word
}

// anyRight is an expression, at most so deep.
func (d *dice) anyRight(deep int) api.Node {
	kind := api.KSet + d.below(9)
	if deep == 0 {
		kind = api.KSet + d.below(3)
	}
	n := api.Node{Kind: kind}
	parts := 1
	switch kind {
	case api.KSet:
		n.Set = 1 + d.below(31)
		return n
	case api.KEmpty, api.KNone:
		return n
	case api.KJoin, api.KUnion:
		parts = 2 + d.below(2)
	case api.KRepeat:
		n.Lo = d.below(4)
		n.Hi = n.Lo + d.below(3)
	}
	for range parts {
		n.L = append(n.L, d.anyRight(deep-1))
	}
	return n
}

// everyWord is all words of no more modes than most, shorter ones first, else by their modes.
func everyWord(most int) [][]int {
	words := [][]int{nil}
	for i := 0; len(words[i]) < most; i++ {
		for mode := range api.Modes {
			words = append(words, append(slices.Clone(words[i]), mode))
		}
	}
	return words
}

// withRoom is the row with spare room behind it, filled with a sign.
func withRoom[T any](row []T, sign T) []T {
	return append(slices.Clone(row), sign, sign, sign)[:len(row)]
}

// whole is a copy of the row and its spare room.
func whole[T any](row []T) []T {
	return slices.Clone(row[:cap(row)])
}

// spoil fills a row and its spare room.
func spoil[T any](row []T, sign T) {
	for i := range row[:cap(row)] {
		row[:cap(row)][i] = sign
	}
}
