package match_test

import (
	"maps"
	"reflect"
	"slices"
	"testing"

	"milestone/api"
	"milestone/match"
	"milestone/regex"
)

// dice are the same numbers in each run.
type dice uint64

func (d *dice) below(n int) int {
	*d = *d*6364136223846793005 + 1442695040888963407
	return int(uint64(*d)>>33) % n
}

// anyRight is a right node of any kind, at most so deep.
func (d *dice) anyRight(deep int) api.Node {
	kind := api.KSet + d.below(9)
	if deep == 0 {
		kind = api.KSet + d.below(3)
	}
	switch kind {
	case api.KSet:
		return set(1 + d.below(31))
	case api.KEmpty:
		if d.below(3) > 0 { // it makes nothing of most that it stands in
			return set(1 << d.below(5))
		}
		return empty
	case api.KNone:
		return none
	case api.KJoin, api.KUnion:
		n := of(kind)
		for range 2 + d.below(3) {
			n.L = append(n.L, d.anyRight(deep-1))
		}
		return n
	case api.KRepeat:
		lo := d.below(4)
		return times(lo, lo+d.below(4), d.anyRight(deep-1))
	}
	return of(kind, d.anyRight(deep-1))
}

// language is the words of no more than so many modes; each is held as a text, a byte a mode.
type language map[string]int

// longest is how many modes those of a language have at most.
const longest = 4

// then is the words of one of each, one behind the other.
func (l language) then(behind language) language {
	both := language{}
	for a := range l {
		for b := range behind {
			if len(a)+len(b) <= longest {
				both[a+b] = 1
			}
		}
	}
	return both
}

func (l language) or(other language) language {
	both := maps.Clone(l)
	maps.Copy(both, other)
	return both
}

// times is the words of lo to hi of l.
func (l language) times(lo, hi int) language {
	all, one := language{}, language{"": 1}
	for i := range hi + 1 {
		if i >= lo {
			all = all.or(one)
		}
		one = one.then(l)
	}
	return all
}

// languageOf is what the chapter says, taken at its word.
func languageOf(n api.Node) language {
	switch n.Kind {
	case api.KSet:
		l := language{}
		for mode := range api.Modes {
			if n.Set>>mode&1 == 1 {
				l[string(rune(mode))] = 1
			}
		}
		return l
	case api.KNone:
		return language{"": 1}
	case api.KJoin:
		l := language{"": 1}
		for _, part := range n.L {
			l = l.then(languageOf(part))
		}
		return l
	case api.KUnion:
		l := language{}
		for _, part := range n.L {
			l = l.or(languageOf(part))
		}
		return l
	case api.KStar: // more than longest that have a mode each would be too many
		return languageOf(n.L[0]).times(0, longest+1)
	case api.KPlus:
		return languageOf(n.L[0]).times(1, longest+1)
	case api.KMaybe:
		return languageOf(n.L[0]).times(0, 1)
	case api.KRepeat:
		return languageOf(n.L[0]).times(n.Lo, n.Hi)
	}
	return language{}
}

// words are those of l that have no more modes, in their order.
func (l language) words(most int) [][]int {
	var words [][]int
	for s := range l {
		if len(s) <= most {
			word := []int{}
			for i := range len(s) {
				word = append(word, int(s[i]))
			}
			words = append(words, word)
		}
	}
	slices.SortFunc(words, byLength)
	return words
}

// checkWhole holds all that is answered of short words against the chapter's words.
func checkWhole(t *testing.T, n api.Node) {
	t.Helper()
	l := languageOf(n)
	for most := range longest + 1 {
		if got, want := asSigns(match.Words(n, most)), asSigns(l.words(most)); got != want {
			t.Errorf("Words of %s, %d: %s, not %s", regex.Text(n), most, got, want)
		}
	}
	for s := range languageOf(of(api.KStar, every)) {
		var row []int
		for i := range len(s) {
			row = append(row, int(s[i]))
		}
		checkMatch(t, n, row, l[s] == 1)
	}
	if match.Null(n) != (l[""] == 1) {
		t.Errorf("Null of %s", regex.Text(n))
	}
}

func TestP501AsTheChapterSays(t *testing.T) {
	d := dice(501)
	several := 0
	for range 400 {
		n := d.anyRight(d.below(5))
		checkWhole(t, n)
		if count := len(languageOf(n)); count > 3 && count < 700 {
			several++
		}
	}
	if several < 100 {
		t.Errorf("only %d of them have several words and not nearly all", several)
	}
}

func TestP501OfAllKindsWithinAllKinds(t *testing.T) {
	around := func(n api.Node) []api.Node {
		return []api.Node{
			of(api.KJoin, n, n), of(api.KJoin, b, n), of(api.KJoin, n, b), of(api.KUnion, n, b), of(api.KUnion, none, n),
			of(api.KStar, n), of(api.KPlus, n), of(api.KMaybe, n), times(0, 0, n), times(0, 2, n), times(1, 3, n), times(2, 2, n),
		}
	}
	for _, n := range []api.Node{w, set(3), empty, none} {
		checkWhole(t, n)
		for _, one := range around(n) {
			checkWhole(t, one)
			for _, two := range around(one) {
				l := languageOf(two)
				if got, want := asSigns(match.Words(two, longest)), asSigns(l.words(longest)); got != want {
					t.Errorf("Words of %s: %s, not %s", regex.Text(two), got, want)
				}
			}
		}
	}
}

// parts tells whether a word is in a language by parting it in each way, which is slow.
func parts(n api.Node, row []int) bool {
	switch n.Kind {
	case api.KSet:
		return len(row) == 1 && n.Set>>row[0]&1 == 1
	case api.KNone:
		return len(row) == 0
	case api.KJoin:
		if len(n.L) == 1 {
			return parts(n.L[0], row)
		}
		rest := of(api.KJoin, n.L[1:]...)
		for i := range len(row) + 1 {
			if parts(n.L[0], row[:i]) && parts(rest, row[i:]) {
				return true
			}
		}
	case api.KUnion:
		return slices.ContainsFunc(n.L, func(part api.Node) bool { return parts(part, row) })
	case api.KStar:
		return len(row) == 0 || parts(of(api.KPlus, n.L[0]), row)
	case api.KPlus:
		for i := 1; i < len(row); i++ {
			if parts(n.L[0], row[:i]) && parts(n, row[i:]) {
				return true
			}
		}
		return parts(n.L[0], row)
	case api.KMaybe:
		return len(row) == 0 || parts(n.L[0], row)
	case api.KRepeat:
		return partsTimes(n, row)
	}
	return false
}

func partsTimes(n api.Node, row []int) bool {
	if n.Hi == 0 || n.Lo == 0 && len(row) == 0 {
		return len(row) == 0
	}
	rest := times(max(n.Lo-1, 0), n.Hi-1, n.L[0])
	for i := range len(row) + 1 {
		if parts(n.L[0], row[:i]) && partsTimes(rest, row[i:]) {
			return true
		}
	}
	return false
}

// Words of more modes, most of them such as nearly are in the language: those that a way through it makes, some changed in one place.
func TestP501MatchOfLongerWords(t *testing.T) {
	d := dice(5)
	in, out := 0, 0
	for range 3000 {
		n := d.anyRight(3)
		row := d.anyWord(n)
		if len(row) > 10 {
			continue
		}
		if len(row) > 0 && d.below(2) == 0 {
			row[d.below(len(row))] = d.below(5)
		}
		want := parts(n, row)
		checkMatch(t, n, row, want)
		if len(row) > longest && want {
			in++
		} else if len(row) > longest {
			out++
		}
	}
	if in < 100 || out < 50 {
		t.Errorf("only %d longer words that are in the language, %d that are not", in, out)
	}
}

// anyWord is one of n's words, if it has any.
func (d *dice) anyWord(n api.Node) []int {
	var row []int
	often := 0
	switch n.Kind {
	case api.KSet:
		mode := d.below(5)
		for n.Set>>mode&1 == 0 {
			mode = d.below(5)
		}
		return []int{mode}
	case api.KJoin:
		for _, part := range n.L {
			row = append(row, d.anyWord(part)...)
		}
	case api.KUnion:
		return d.anyWord(n.L[d.below(len(n.L))])
	case api.KStar:
		often = d.below(4)
	case api.KPlus:
		often = 1 + d.below(3)
	case api.KMaybe:
		often = d.below(2)
	case api.KRepeat:
		often = n.Lo + d.below(n.Hi-n.Lo+1)
	}
	for range often {
		row = append(row, d.anyWord(n.L[0])...)
	}
	return row
}

// row is a word of so many modes, of these by turns.
func row(long int, modes ...int) []int {
	word := make([]int, long)
	for i := range word {
		word[i] = modes[i%len(modes)]
	}
	return word
}

func TestP501MatchOfLongWords(t *testing.T) {
	const long = 300000
	checkMatch(t, read(t, "[wb]*"), row(long, 0, 1), true)
	checkMatch(t, read(t, "[wb]*"), append(row(long, 0, 1), 2), false)
	checkMatch(t, read(t, "(wb)*"), row(long, 0, 1), true)
	checkMatch(t, read(t, "(wb)*"), row(long+1, 0, 1), false)
	checkMatch(t, read(t, ".*.*(w*b){2,5}.*"), row(long, 0), false)
	checkMatch(t, read(t, ".*.*(w*b){2,5}.*"), append(row(long, 0), 1, 1), true)
	checkMatch(t, read(t, "((w{1,3}b{0,2}){2,4}c)+"), row(long, 0, 0, 1, 0, 2), true)
	checkMatch(t, read(t, "w{9,9}{9,9}{9,9}{9,9}{9,9}"), row(59049, 0), true)
	checkMatch(t, read(t, "w{9,9}{9,9}{9,9}{9,9}{9,9}"), row(59048, 0), false)
	checkMatch(t, read(t, "w{9,9}{9,9}{9,9}{9,9}{9,9}"), row(59050, 0), false)
}

func nested(deep int, n api.Node, around func(api.Node) api.Node) api.Node {
	for range deep {
		n = around(n)
	}
	return n
}

// Expressions that hang on one another as deep as they may.
func TestP501MatchOfDeepOnes(t *testing.T) {
	often := nested(999, set(3), func(n api.Node) api.Node { return times(0, 9, n) })
	for _, long := range []int{0, 1, 60, 63, 64, 65, 130} {
		checkMatch(t, often, row(long, 0, 1), true)
		checkMatch(t, often, append(row(long, 0, 1), 2), false)
	}
	once := nested(999, w, func(n api.Node) api.Node { return times(1, 1, n) })
	checkMatch(t, once, row(1, 0), true)
	checkMatch(t, once, row(2, 0), false)
	checkMatch(t, once, nil, false)
	exact := nested(999, w, func(n api.Node) api.Node { return times(2, 9, n) })
	checkMatch(t, exact, row(100, 0), false)
	mixed := nested(333, w, func(n api.Node) api.Node { return times(0, 9, of(api.KJoin, of(api.KMaybe, n), b)) })
	checkMatch(t, mixed, row(70, 1), true)
	checkMatch(t, mixed, row(70, 0, 1), false)
	checkMatch(t, mixed, append([]int{0}, row(70, 1)...), false)
	checkMatch(t, mixed, append([]int{0}, row(350, 1)...), true)
	stars := nested(499, b, func(n api.Node) api.Node { return of(api.KStar, of(api.KUnion, n, w)) })
	checkMatch(t, stars, row(1000, 0, 1, 1), true)
	checkMatch(t, stars, append(row(1000, 0, 1, 1), 4), false)
	signs := nested(999, w, func(n api.Node) api.Node { return of(api.KPlus, n) })
	checkMatch(t, signs, row(1000, 0), true)
	checkMatch(t, signs, nil, false)
	joins := nested(999, w, func(n api.Node) api.Node { return of(api.KJoin, b, n) })
	checkMatch(t, joins, append(row(999, 1), 0), true)
	checkMatch(t, joins, append(row(998, 1), 0), false)
	if got := asSigns(match.Words(often, 2)); got != "- w b ww wb bw bb" {
		t.Errorf("Words of many times in many: %s", got)
	}
	if !match.Null(often) || match.Null(once) || match.Null(signs) || !match.Null(mixed) {
		t.Error("Null of deep ones")
	}
}

// Any node, right or not, and any word: the calls end.
func TestP1OfAnyNode(t *testing.T) {
	d := dice(1)
	numbers := append([]int{0, 1, 2, 3, 4, 5, 6, 7, 8, 9, 10, 31}, far...)
	number := func() int { return numbers[d.below(len(numbers))] }
	var node func(deep int) api.Node
	node = func(deep int) api.Node {
		n := api.Node{Kind: 1 + d.below(9)}
		if d.below(6) == 0 {
			n = api.Node{Kind: number(), Set: number(), Lo: number(), Hi: number()}
		}
		for range d.below(4) {
			if deep > 0 {
				n.L = append(n.L, node(deep-1))
			}
		}
		return n
	}
	for range 5000 {
		n := node(d.below(4))
		match.Null(n)
		match.Words(n, number())
		match.Match(n, nil)
		match.Match(n, []int{number(), number(), number()})
	}
	for _, kind := range []int{api.KStar, api.KPlus, api.KMaybe, api.KRepeat, api.KJoin, api.KUnion} {
		match.Null(of(kind))
		match.Words(of(kind), 4)
		match.Match(of(kind), []int{0})
	}
}

func TestP2WhatIsHandedInIsNotChanged(t *testing.T) {
	n := read(t, "w(b|c)*[ft]{1,3}")
	junk := of(api.KStar, b)
	spare := append(make([]api.Node, 0, 8), n, w)
	spare[:3][2] = junk
	modes := append(make([]int, 0, 8), 0, 1, 4, 0)
	modes[:5][4] = 77
	for range 2 {
		checkMatch(t, of(api.KJoin, spare...), modes, true)
		if match.Null(of(api.KUnion, spare...)) || len(match.Words(of(api.KJoin, spare...), 4)) == 0 {
			t.Error("Null, Words")
		}
	}
	if !reflect.DeepEqual(spare[:3], []api.Node{read(t, "w(b|c)*[ft]{1,3}"), w, junk}) {
		t.Errorf("changed: %+v", spare[:3])
	}
	if !slices.Equal(modes[:5], []int{0, 1, 4, 0, 77}) {
		t.Errorf("changed: %v", modes[:5])
	}
}

func TestP3TheSameCallsAnswerTheSame(t *testing.T) {
	ask := func() (told []bool, words []string) {
		d := dice(3)
		for range 200 {
			n := d.anyRight(3)
			told = append(told, match.Null(n), match.Match(n, []int{0, 1, 4}), match.Match(n, []int{5}))
			words = append(words, asSigns(match.Words(n, 3)))
		}
		return told, words
	}
	told, words := ask()
	for range 2 {
		if again, wordsAgain := ask(); !slices.Equal(told, again) || !slices.Equal(words, wordsAgain) {
			t.Error("not the same")
		}
	}
}
