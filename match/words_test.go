package match_test

import (
	"math"
	"reflect"
	"slices"
	"testing"

	"milestone/api"
	"milestone/match"
	"milestone/regex"
)

// asSigns writes words with spaces between; the word of none as a dash.
func asSigns(words [][]int) string {
	s := ""
	for i, word := range words {
		if i > 0 {
			s += " "
		}
		if len(word) == 0 {
			s += "-"
		}
		for _, mode := range word {
			s += "wbcft"[mode : mode+1]
		}
	}
	return s
}

// checkTold tells Words of an expression for most 0, 1, 2 and so on.
func checkTold(t *testing.T, text string, want ...string) {
	t.Helper()
	for most, signs := range want {
		if got := asSigns(match.Words(read(t, text), most)); got != signs {
			t.Errorf("Words of %s, %d: %q, not %q", text, most, got, signs)
		}
	}
}

func TestP501WordsOfEachKind(t *testing.T) {
	checkTold(t, "0", "", "", "", "", "")
	checkTold(t, "_", "-", "-", "-", "-", "-")
	checkTold(t, "c", "", "c", "c", "c", "c")
	checkTold(t, "[tbw]", "", "w b t", "w b t")
	checkTold(t, ".", "", "w b c f t", "w b c f t")
	checkTold(t, "wb", "", "", "wb", "wb", "wb")
	checkTold(t, "t[wf]c", "", "", "", "twc tfc", "twc tfc")
	checkTold(t, "t|b|w|b", "", "w b t", "w b t")
	checkTold(t, "f*", "-", "- f", "- f ff", "- f ff fff", "- f ff fff ffff")
	checkTold(t, "f+", "", "f", "f ff", "f ff fff", "f ff fff ffff")
	checkTold(t, "f?", "-", "- f", "- f", "- f", "- f")
	checkTold(t, "f{2,3}", "", "", "ff", "ff fff", "ff fff")
	checkTold(t, "f{3,9}", "", "", "", "fff", "fff ffff")
	checkTold(t, "f{0,0}", "-", "-", "-", "-", "-")
	checkTold(t, "f{5,9}", "", "", "", "", "")
}

// Shorter words come first, however great their modes; of those as long what stands first counts first.
func TestP501WordsInTheirOrder(t *testing.T) {
	checkTold(t, "wwww|tt|b|_|bt|c|ttt|wbw", "-", "- b c", "- b c bt tt", "- b c bt tt wbw ttt", "- b c bt tt wbw ttt wwww")
	checkTold(t, "[wt]{1,3}", "", "w t", "w t ww wt tw tt", "w t ww wt tw tt www wwt wtw wtt tww twt ttw ttt")
	checkTold(t, "(tb|wc|bt|bw|cw)?", "-", "-", "- wc bw bt cw tb")
	checkTold(t, "t?w?", "-", "- w t", "- w t tw")
}

// What an expression takes in several ways is one word.
func TestP501WordsOnce(t *testing.T) {
	checkTold(t, "w|w|[wb]", "", "w b", "w b")
	checkTold(t, "(w?){0,3}", "-", "- w", "- w ww", "- w ww www", "- w ww www")
	checkTold(t, "(w*)*(w*)*", "-", "- w", "- w ww", "- w ww www", "- w ww www wwww")
	checkTold(t, "w*(_|w|ww)w*", "-", "- w", "- w ww", "- w ww www")
}

func TestP501WordsOfAll(t *testing.T) {
	all := 0
	for most, long := 0, 1; most <= 4; most, long = most+1, long*5 {
		all += long
		for _, text := range []string{".*", "(.*)*", ".{0,4}", "(.?){9,9}", "_|.|..|.{3,3}|.{4,9}"} {
			words := match.Words(read(t, text), most)
			if len(words) != all {
				t.Errorf("Words of %s, %d: %d of them, not %d", text, most, len(words), all)
			}
			if !slices.IsSortedFunc(words, byLength) {
				t.Errorf("Words of %s, %d: out of order", text, most)
			}
		}
	}
}

func byLength(a, b []int) int {
	if len(a) != len(b) {
		return len(a) - len(b)
	}
	return slices.Compare(a, b)
}

// Each that is told is a word by Match, and each that is one is told.
func TestP501WordsAreThoseOfMatch(t *testing.T) {
	all := match.Words(of(api.KStar, every), 4)
	for _, text := range []string{"w(b|c)*[ft]{1,3}", "(w?b?)*", "(w|bb){2,2}", "[wt]*c.", "(0|_)(w{0,2}t)+", "(.{0,2}w){1,2}", "0.*", "(ww)*(www)*", "((w{0,9}){0,9}b?){0,9}"} {
		n := read(t, text)
		for most := range 5 {
			var want [][]int
			for _, word := range all {
				if len(word) <= most && match.Match(n, word) {
					want = append(want, word)
				}
			}
			if got := match.Words(n, most); asSigns(got) != asSigns(want) {
				t.Errorf("Words of %s, %d: %s, not %s", text, most, asSigns(got), asSigns(want))
			}
		}
	}
}

// Where there are none to be asked for, Words ends.
func TestP1WordsOfAnyBound(t *testing.T) {
	for _, most := range append([]int{5, 9, 100}, far...) {
		for _, text := range []string{".*", "w", "_", "0", ".{9,9}"} {
			match.Words(read(t, text), most)
		}
	}
	match.Words(of(api.KStar, every), math.MaxInt)
}

func TestP2WordsAreNewMemory(t *testing.T) {
	for _, text := range []string{".*", "_", "w*", "(w?){0,3}|bt|_"} {
		n := read(t, text)
		for most := range 5 {
			told := match.Words(n, most)
			was := asSigns(told)
			seen := map[*int]bool{}
			for _, words := range [][][]int{told, match.Words(n, most)} {
				for _, word := range words[:cap(words)] {
					spare := word[:cap(word)]
					for i := range spare {
						if seen[&spare[i]] {
							t.Fatalf("Words of %s, %d: one memory twice", text, most)
						}
						seen[&spare[i]] = true
						spare[i] = 77
					}
				}
				clear(words[:cap(words)])
			}
			if got := asSigns(match.Words(n, most)); got != was {
				t.Errorf("Words of %s, %d: %s, then %s", text, most, was, got)
			}
		}
		if !reflect.DeepEqual(n, read(t, text)) {
			t.Errorf("%s is changed to %s", text, regex.Text(n))
		}
	}
}
