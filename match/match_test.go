package match_test

import (
	"math"
	"slices"
	"strings"
	"testing"

	"milestone/api"
	"milestone/match"
	"milestone/regex"
)

// set, of, times make nodes.
func set(modes int) api.Node {
	return api.Node{Kind: api.KSet, Set: modes}
}

func of(kind int, parts ...api.Node) api.Node {
	return api.Node{Kind: kind, L: parts}
}

func times(lo, hi int, part api.Node) api.Node {
	return api.Node{Kind: api.KRepeat, Lo: lo, Hi: hi, L: []api.Node{part}}
}

var (
	w     = set(1)
	b     = set(2)
	c     = set(4)
	every = set(31)
	empty = of(api.KEmpty)
	none  = of(api.KNone)
)

// far are numbers that are no modes.
var far = []int{-1, -2, -5, 5, 6, 7, 31, 32, 63, 64, 65, 256, 1 << 31, 1 << 32, -1 << 31, -1 << 32, math.MaxInt, math.MinInt}

// word is a word by its signs.
func word(signs string) []int {
	var modes []int
	for _, sign := range signs {
		modes = append(modes, strings.IndexRune("wbcft", sign))
	}
	return modes
}

// read is an expression by its text.
func read(t *testing.T, text string) api.Node {
	t.Helper()
	n, _, e := regex.Parse(text)
	if e != api.OK {
		t.Fatalf("%q is not read", text)
	}
	return n
}

func checkMatch(t *testing.T, n api.Node, row []int, want bool) {
	t.Helper()
	if match.Match(n, row) != want {
		t.Errorf("Match of %.200s, %.200v: not %v", regex.Text(n), row, want)
	}
}

// checkWords takes texts of words, with spaces between; a dash is the word of none.
func checkWords(t *testing.T, text, in, out string) {
	t.Helper()
	n := read(t, text)
	for _, signs := range strings.Fields(in) {
		checkMatch(t, n, word(strings.Trim(signs, "-")), true)
	}
	for _, signs := range strings.Fields(out) {
		checkMatch(t, n, word(strings.Trim(signs, "-")), false)
	}
	if match.Null(n) != slices.Contains(strings.Fields(in), "-") {
		t.Errorf("Null of %s", text)
	}
}

func TestP501MatchOfSets(t *testing.T) {
	for modes := 1; modes <= 31; modes++ {
		n := set(modes)
		checkMatch(t, n, nil, false)
		for mode := range api.Modes {
			checkMatch(t, n, []int{mode}, modes>>mode&1 == 1)
			checkMatch(t, n, []int{mode, mode}, false)
		}
	}
}

func TestP501MatchOfEachKind(t *testing.T) {
	checkWords(t, "w", "w", "- b t ww wb bw")
	checkWords(t, "[bf]", "b f", "- w c t bf bb")
	checkWords(t, ".", "w b c f t", "- ww wt")
	checkWords(t, "0", "", "- w t wb")
	checkWords(t, "_", "-", "w b c f t ww")
	checkWords(t, "wb", "wb", "- w b bw wwb wbb wbw ww bb")
	checkWords(t, "wbc", "wbc", "- wb bc wc wcb cbw wbcw")
	checkWords(t, "w|b", "w b", "- c wb bw ww bb")
	checkWords(t, "w|bb|ct", "w bb ct", "- b c t wbb bbct bct")
	checkWords(t, "w*", "- w ww wwwwwwwww", "b wb bw wwbww")
	checkWords(t, "w+", "w ww wwwwwwwww", "- b wb bw wwbww")
	checkWords(t, "w?", "- w", "b ww wb")
	checkWords(t, "w{2,4}", "ww www wwww", "- w wwwww wwb wwwb b")
}

func TestP501MatchOfStarAndPlus(t *testing.T) {
	checkWords(t, "(wb)*", "- wb wbwb wbwbwb", "w b bw wbw wbwbw wbb")
	checkWords(t, "(wb)+", "wb wbwb wbwbwb", "- w b bw wbw wbwbw wbb")
	checkWords(t, "(w|bb)*", "- w bb wbb bbw wwbbww bbbb", "b wb bbb bwb")
	checkWords(t, "(w|bb)+", "w bb wbb bbw wwbbww bbbb", "- b wb bbb bwb")
	checkWords(t, "[wb]*c", "c wc bc wbbwc", "- w wcc cw fc")
	checkWords(t, "w*w", "w ww www", "- b wwb")
	checkWords(t, "(ww)*(www)*", "- ww www wwww wwwww wwwwww", "w b")
	checkWords(t, "(www|wwwww)+", "www wwwww wwwwww wwwwwwww wwwwwwwww", "- w ww wwww wwwwwww")
}

// Of what has the word of none, one time more may take nothing.
func TestP501MatchOfManyTimesNone(t *testing.T) {
	checkWords(t, "_*", "-", "w")
	checkWords(t, "_+", "-", "w")
	checkWords(t, "_?", "-", "w")
	checkWords(t, "_{3,5}", "-", "w")
	checkWords(t, "(w?)*", "- w ww www", "b wb")
	checkWords(t, "(w?)+", "- w ww www", "b wb")
	checkWords(t, "(w*)*", "- w ww www", "b bw")
	checkWords(t, "(w*)+b", "b wb wwwb", "- w bb bw")
	checkWords(t, "(w+)*b", "b wb wwwb", "- w bb bw")
	checkWords(t, "(w*b*)*", "- w b wb bw bbwwbb", "c wc cb")
	checkWords(t, "(w*b*)+", "- w b wb bw bbwwbb", "c wc cb")
	checkWords(t, "(w?b?)*", "- w b wb bw bbwwbb", "c wc cb")
	checkWords(t, "((_|w)*|b)*", "- w b wbw bwwb", "c bc")
	checkWords(t, "(w?){2,3}", "- w ww www", "b wwww")
	checkWords(t, "(w?){3,3}", "- w ww www", "b wwww")
	checkWords(t, "(w*){2,2}b", "b wb wwwwb", "- w bb")
	checkWords(t, "(_|bb){2,3}", "- bb bbbb bbbbbb", "b bbb bbbbb bbbbbbbb")
}

// Of what has no word, only no time at all is one.
func TestP501MatchOfManyTimesNothing(t *testing.T) {
	checkWords(t, "0*", "-", "w b")
	checkWords(t, "0+", "", "- w b")
	checkWords(t, "0?", "-", "w b")
	checkWords(t, "0{0,0}", "-", "w b")
	checkWords(t, "0{0,9}", "-", "w b")
	checkWords(t, "0{1,9}", "", "- w b")
	checkWords(t, "0w", "", "- w b")
	checkWords(t, "w0", "", "- w ww")
	checkWords(t, "w|0", "w", "- b ww")
	checkWords(t, "(w0)*", "-", "w ww")
	checkWords(t, "(w|b0)*", "- w ww", "b wb")
	checkWords(t, "(_|0)w", "w", "- ww")
}

func TestP501MatchOfRepeats(t *testing.T) {
	for lo := 0; lo <= api.MaxTimes; lo++ {
		for hi := lo; hi <= api.MaxTimes; hi++ {
			one, two := times(lo, hi, w), times(lo, hi, of(api.KJoin, w, b))
			within, maybe := times(lo, hi, times(2, 3, w)), times(lo, hi, of(api.KMaybe, w))
			for long := range 3*api.MaxTimes + 3 {
				row := make([]int, long)
				checkMatch(t, one, row, lo <= long && long <= hi)
				checkMatch(t, within, row, max(lo*2, 2*((long+2)/3)) <= long && long <= hi*3)
				checkMatch(t, maybe, row, long <= hi)
				for i := 1; i < long; i += 2 {
					row[i] = 1
				}
				checkMatch(t, two, row, long%2 == 0 && lo <= long/2 && long/2 <= hi)
			}
		}
	}
	checkWords(t, "w{0,0}", "-", "w b")
	checkWords(t, "w{0,1}", "- w", "b ww")
	checkWords(t, "w{1,1}", "w", "- b ww")
	checkWords(t, "w{0,0}b", "b", "- wb w")
	checkWords(t, "(w|bb){2,2}", "ww wbb bbw bbbb", "- w bb bbb wb www")
	checkWords(t, "(w|bb){0,2}c", "c wc bbc wbbc", "- w bb bc wwwc")
	checkWords(t, "(w{1,2}b){2,3}", "wbwb wwbwb wwbwwbwwb", "- wb wwb wbwwwb wbwbwbwb")
}

func TestP501MatchOfOneInAnother(t *testing.T) {
	checkWords(t, "w(b|c)*[ft]{1,3}", "wf wbt wbcft wcccfff", "- w wb f wffff wbwf")
	checkWords(t, "(w+b?)+c|t", "t wc wbc wwbwc", "- c bc wbbc wct tt")
	checkWords(t, "((w|b)(c|f))+", "wc bf wcbf bcwcwf", "- w c cw wb wcb")
	checkWords(t, "(w(b(c|f)?)*)?", "- w wb wbc wbcbbf", "b wc wbcc ww")
	checkWords(t, "[wt]*c.", "cw wtcf cc wct", "- c bcw wtc cww")
}

func TestP501MatchOfManyParts(t *testing.T) {
	const many = 700
	var row, other []api.Node
	var modes []int
	for i := range many {
		mode := (i*i + i/3) % api.Modes
		row = append(row, set(1<<mode))
		other = append(other, times(mode, mode, w))
		modes = append(modes, mode)
	}
	all := of(api.KJoin, row...)
	checkMatch(t, all, modes, true)
	checkMatch(t, all, modes[1:], false)
	checkMatch(t, all, modes[:many-1], false)
	checkMatch(t, all, append(slices.Clone(modes), 0), false)
	for _, at := range []int{0, 1, many / 2, many - 1} {
		wrong := slices.Clone(modes)
		wrong[at] = (wrong[at] + 1) % api.Modes
		checkMatch(t, all, wrong, false)
		row[at] = empty
		checkMatch(t, of(api.KJoin, row...), modes, false)
		row[at] = set(1 << modes[at])
	}
	one := of(api.KUnion, other...)
	for long := range 7 {
		checkMatch(t, one, make([]int, long), long < api.Modes)
	}
	first, last := of(api.KUnion, append([]api.Node{b}, other...)...), of(api.KUnion, append(slices.Clone(other), b)...)
	checkMatch(t, one, []int{1}, false)
	checkMatch(t, first, []int{1}, true)
	checkMatch(t, last, []int{1}, true)
}

// A number that is no mode is in no word, wherever it stands and whatever would take the rest.
func TestP501MatchOfNoModes(t *testing.T) {
	star := of(api.KStar, every)
	around := []api.Node{every, star, of(api.KPlus, every), none, of(api.KMaybe, every), times(0, 9, every), times(0, 9, star), of(api.KJoin, star, every), of(api.KUnion, star, none)}
	for range 30 {
		star = times(0, 9, of(api.KUnion, star, every))
	}
	for _, n := range append(around, star) {
		for _, mode := range far {
			checkMatch(t, n, []int{mode}, false)
			checkMatch(t, n, []int{mode, 0}, false)
			checkMatch(t, n, []int{0, mode}, false)
			checkMatch(t, n, []int{0, 1, mode, 3, 4}, false)
			checkMatch(t, n, []int{mode, mode}, false)
		}
	}
}

func TestP501NullOfEachKind(t *testing.T) {
	checkNull := func(n api.Node, want bool) {
		t.Helper()
		if match.Null(n) != want || match.Match(n, nil) != want || match.Match(n, []int{}) != want {
			t.Errorf("Null of %s: not %v", regex.Text(n), want)
		}
	}
	has, lacks := []api.Node{none, of(api.KMaybe, w), of(api.KStar, w)}, []api.Node{w, every, empty}
	for _, n := range has {
		checkNull(n, true)
		for _, m := range has {
			checkNull(of(api.KJoin, n, m), true)
			checkNull(of(api.KJoin, n, m, w), false)
			checkNull(of(api.KUnion, n, m), true)
		}
		for _, m := range lacks {
			checkNull(of(api.KJoin, n, m), false)
			checkNull(of(api.KJoin, m, n), false)
			checkNull(of(api.KUnion, n, m), true)
			checkNull(of(api.KUnion, m, n), true)
			checkNull(of(api.KUnion, m, m, n), true)
		}
		for _, kind := range []int{api.KStar, api.KPlus, api.KMaybe} {
			checkNull(of(kind, n), true)
		}
		for lo := range 10 {
			checkNull(times(lo, 9, n), true)
			checkNull(times(lo, lo, n), true)
		}
	}
	for _, n := range lacks {
		checkNull(n, false)
		for _, m := range lacks {
			checkNull(of(api.KJoin, n, m), false)
			checkNull(of(api.KUnion, n, m), false)
			checkNull(of(api.KUnion, n, m, n), false)
		}
		checkNull(of(api.KStar, n), true)
		checkNull(of(api.KPlus, n), false)
		checkNull(of(api.KMaybe, n), true)
		for lo := range 10 {
			checkNull(times(lo, 9, n), lo == 0)
			checkNull(times(lo, lo, n), lo == 0)
		}
	}
}
