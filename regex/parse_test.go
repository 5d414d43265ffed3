package regex_test

import (
	"reflect"
	"strings"
	"testing"

	"milestone/api"
	"milestone/regex"
)

func checkRead(t *testing.T, s string, want api.Node) {
	t.Helper()
	n, at, e := regex.Parse(s)
	if e != api.OK || at != 0 || !reflect.DeepEqual(n, want) {
		t.Errorf("Parse of %q: %v at %d, %+v, not %+v", s, e, at, n, want)
	}
}

func checkFault(t *testing.T, s string, at int, want api.Errno) {
	t.Helper()
	n, place, e := regex.Parse(s)
	if e != want || place != at || !reflect.DeepEqual(n, api.Node{}) {
		t.Errorf("Parse of %q: %v at %d, not %v at %d; %+v", s, e, place, want, at, n)
	}
}

func checkBad(t *testing.T, s string, at int) {
	t.Helper()
	checkFault(t, s, at, api.BadRegex)
}

// lacking tells that none of these texts, each the beginning of one, is one, as something lacks at its end.
func lacking(t *testing.T, texts ...string) {
	t.Helper()
	for _, s := range texts {
		checkBad(t, s, len(s))
	}
}

func TestP401ParseOfSingleSigns(t *testing.T) {
	for s, want := range map[string]api.Node{
		"w": set(1), "b": set(2), "c": set(4), "f": set(8), "t": set(16), ".": set(31),
		"0": of(api.KEmpty), "_": of(api.KNone),
	} {
		checkRead(t, s, want)
		checkRead(t, "("+s+")", want)
		checkRead(t, s+"w", of(api.KJoin, want, w))
		checkRead(t, "w|"+s, of(api.KUnion, w, want))
		checkRead(t, s+"*", of(api.KStar, want))
	}
}

func TestP401ParseOfClasses(t *testing.T) {
	for s, want := range map[string]int{
		"[w]": 1, "[b]": 2, "[c]": 4, "[f]": 8, "[t]": 16,
		"[wb]": 3, "[bw]": 3, "[tw]": 17, "[cft]": 28, "[tfc]": 28, "[bcft]": 30, "[wbcft]": 31, "[tfcbw]": 31,
		"[ww]": 1, "[wbw]": 3, "[bww]": 3, "[bwbw]": 3, "[tttttttt]": 16, "[wbcftwbcft]": 31,
		"[" + strings.Repeat("fc", 99) + "]": 12,
	} {
		checkRead(t, s, set(want))
	}
	checkRead(t, "[wb][cf]", of(api.KJoin, set(3), set(12)))
	checkRead(t, "[wb]+", of(api.KPlus, set(3)))
	lacking(t, "[", "[w", "[wb", "[wbcft", "[ww", "w[", "(w|[b", "w*[c")
	checkBad(t, "[]", 1)
	checkBad(t, "w[]", 2)
	checkBad(t, "[]w]", 1)
	checkBad(t, "[[w]]", 1)
	checkBad(t, "[w[b]]", 2)
	for _, between := range []string{".", "0", "_", "(", ")", "*", "+", "?", "{", "}", "|", ",", "1", "-", "^", "x", "W", " ", "\x00", "\n", "\xff", "\u0175"} {
		checkBad(t, "["+between+"w]", 1)
		checkBad(t, "[w"+between+"]", 2)
		checkBad(t, "[wb"+between, 3)
	}
}

func TestP401ParseOfBrackets(t *testing.T) {
	checkRead(t, "(w)", w)
	checkRead(t, "(((w)))", w)
	checkRead(t, "((w)(b))", of(api.KJoin, w, b))
	checkRead(t, "(w|b)", of(api.KUnion, w, b))
	checkRead(t, "(w)|(b)", of(api.KUnion, w, b))
	checkRead(t, "((w*))*", of(api.KStar, of(api.KStar, w)))
	checkRead(t, "(wb)c", of(api.KJoin, of(api.KJoin, w, b), c))
	checkRead(t, "w(bc)", of(api.KJoin, w, of(api.KJoin, b, c)))
	checkRead(t, "(w|b)|c", of(api.KUnion, of(api.KUnion, w, b), c))
	checkRead(t, "w|(b|c)", of(api.KUnion, w, of(api.KUnion, b, c)))
	checkRead(t, "((w|b)|(b|c))", of(api.KUnion, of(api.KUnion, w, b), of(api.KUnion, b, c)))
	lacking(t, "(", "((", "(w", "((w)", "(w|", "(w|b", "w(", "w|(", "w*(", "(w)(")
	checkBad(t, "()", 1)
	checkBad(t, "w()", 2)
	checkBad(t, "(())", 2)
	checkBad(t, "(w|)", 3)
	checkBad(t, "(|w)", 1)
	checkBad(t, "(*w)", 1)
	checkBad(t, ")", 0)
	checkBad(t, ")(", 0)
	checkBad(t, "w)", 1)
	checkBad(t, "(w))", 3)
	checkBad(t, "(w))(", 3)
	checkBad(t, "w|b)", 3)
}

func TestP401ParseOfSignsBehind(t *testing.T) {
	for s, kind := range map[string]int{"*": api.KStar, "+": api.KPlus, "?": api.KMaybe} {
		checkRead(t, "w"+s, of(kind, w))
		checkRead(t, "w"+s+s, of(kind, of(kind, w)))
		checkRead(t, "w"+s+"*", of(api.KStar, of(kind, w)))
		checkRead(t, "w+"+s, of(kind, of(api.KPlus, w)))
		checkRead(t, "w{1,2}"+s, of(kind, times(1, 2, w)))
		checkRead(t, "w"+s+"{1,2}", times(1, 2, of(kind, w)))
		checkRead(t, "(wb)"+s, of(kind, of(api.KJoin, w, b)))
		checkRead(t, "(w|b)"+s, of(kind, of(api.KUnion, w, b)))
		checkRead(t, "0"+s+"_"+s, of(api.KJoin, of(kind, of(api.KEmpty)), of(kind, of(api.KNone))))
		checkBad(t, s, 0)
		checkBad(t, s+"w", 0)
		checkBad(t, "("+s+")", 1)
		checkBad(t, "w|"+s, 2)
		checkBad(t, "w|b("+s, 4)
	}
	checkRead(t, "w*+?{0,1}", times(0, 1, of(api.KMaybe, of(api.KPlus, of(api.KStar, w)))))
}

func TestP401ParseOfHowOften(t *testing.T) {
	digits := "0123456789"
	for lo := range 10 {
		for hi := range 10 {
			s := "w{" + digits[lo:lo+1] + "," + digits[hi:hi+1] + "}"
			if lo <= hi {
				checkRead(t, s, times(lo, hi, w))
				continue
			}
			checkBad(t, s, 1)
			checkBad(t, "(w|"+s, 4)
			checkBad(t, s+"x", 1)
			checkBad(t, s+"{x", 1)
		}
	}
	checkRead(t, "w{1,2}{3,4}", times(3, 4, times(1, 2, w)))
	checkRead(t, "wb{1,2}", of(api.KJoin, w, times(1, 2, b)))
}

func TestP401ParseOfBracesThatAreWrong(t *testing.T) {
	lacking(t, "w{", "w{1", "w{1,", "w{1,2", "w{3,2", "w{9,0", "(w{", "b|w{1", "w{1,2}{")
	for _, other := range []string{"a", "w", "x", ".", "[", "]", "(", ")", "*", "{", "}", "|", "-", "+", " ", "_", ",", "/", ":", "\x00", "\xff", "\u0661"} {
		checkBad(t, "w{"+other, 1)
		checkBad(t, "w{"+other+",2}", 1)
		checkBad(t, "w{1,"+other, 1)
		checkBad(t, "w{1,"+other+"}", 1)
		checkBad(t, "(w|b{"+other, 4)
		checkBad(t, "w{1,2}{"+other, 6)
		if other != "," {
			checkBad(t, "w{1"+other, 3)
			checkBad(t, "w{1"+other+"2}", 3)
		}
		if other != "}" {
			checkBad(t, "w{1,2"+other, 5)
			checkBad(t, "w{3,2"+other+"}", 5)
		}
	}
	checkBad(t, "w{}", 1)
	checkBad(t, "w{1}", 3)
	checkBad(t, "w{,2}", 1)
	checkBad(t, "w{1,}", 1)
	checkBad(t, "w{12,3}", 3)
	checkBad(t, "w{01,2}", 3)
	checkBad(t, "w{1,23}", 5)
	checkBad(t, "w{1,02}", 5)
	checkBad(t, "w{1,10}", 5)
	checkBad(t, "{1,2}", 0)
	checkBad(t, "({1,2})", 1)
	checkBad(t, "w|{1,2}", 2)
	checkBad(t, "w{3,2}b{", 1)
	checkBad(t, "w{1,2}b{3,2}", 7)
}

func TestP401ParseOfJoinsAndUnions(t *testing.T) {
	checkRead(t, "wb", of(api.KJoin, w, b))
	checkRead(t, "wbc", of(api.KJoin, w, b, c))
	checkRead(t, "w|b", of(api.KUnion, w, b))
	checkRead(t, "w|b|c", of(api.KUnion, w, b, c))
	checkRead(t, "w|w|w|w", of(api.KUnion, w, w, w, w))
	lacking(t, "", "w|", "w|b|", "wb|", "w*|", "(w)|")
	checkBad(t, "|", 0)
	checkBad(t, "|w", 0)
	checkBad(t, "w||b", 2)
	checkBad(t, "w|b||", 4)
}

// What stands behind one binds closest, then joins, then unions, wherever each of them stands.
func TestP401WhatBindsClosest(t *testing.T) {
	checkRead(t, "wb|c", of(api.KUnion, of(api.KJoin, w, b), c))
	checkRead(t, "w|bc", of(api.KUnion, w, of(api.KJoin, b, c)))
	checkRead(t, "wb|bc", of(api.KUnion, of(api.KJoin, w, b), of(api.KJoin, b, c)))
	checkRead(t, "w*b", of(api.KJoin, of(api.KStar, w), b))
	checkRead(t, "wb*", of(api.KJoin, w, of(api.KStar, b)))
	checkRead(t, "w*|b", of(api.KUnion, of(api.KStar, w), b))
	checkRead(t, "w|b*", of(api.KUnion, w, of(api.KStar, b)))
	checkRead(t, "w|bc+|b", of(api.KUnion, w, of(api.KJoin, b, of(api.KPlus, c)), b))
	checkRead(t, "(w|b)c", of(api.KJoin, of(api.KUnion, w, b), c))
	checkRead(t, "w(b|c)", of(api.KJoin, w, of(api.KUnion, b, c)))
	checkRead(t, "w(b|c)?w|b", of(api.KUnion, of(api.KJoin, w, of(api.KMaybe, of(api.KUnion, b, c)), w), b))
	checkRead(t, "w(b(c|w)|c)", of(api.KJoin, w, of(api.KUnion, of(api.KJoin, b, of(api.KUnion, c, w)), c)))
}

// A byte that stands nowhere, or not here, is told of wherever it comes.
func TestP401ParseOfBytesThatCannotStand(t *testing.T) {
	known := "wbcft.[0_(){}*+?|"
	for i := range 256 {
		s := string([]byte{byte(i)})
		if strings.Contains(known, s) {
			continue
		}
		checkBad(t, s, 0)
		checkBad(t, s+"w", 0)
		checkBad(t, "w"+s+"b", 1)
		checkBad(t, "wb*"+s, 3)
		checkBad(t, "(w"+s+")", 2)
		checkBad(t, "(w|"+s, 3)
		checkBad(t, "(w)"+s, 3)
		checkBad(t, "w|b{1,2}"+s, 8)
	}
	checkBad(t, "]", 0)
	checkBad(t, "w]", 1)
	checkBad(t, "}", 0)
	checkBad(t, "w}", 1)
	checkBad(t, "w{1,2}}", 6)
	checkBad(t, "[w]]", 3)
	checkBad(t, "w\x00", 1)
	checkBad(t, "(w\x00", 2)
}

func TestP401ParseTellsTheFirstFault(t *testing.T) {
	checkBad(t, "w|x|)", 2)
	checkBad(t, "(x", 1)
	checkBad(t, "w)[", 1)
	checkBad(t, "[x]{2,1}", 1)
	checkBad(t, "w{2,1}[x]", 1)
	deep := strings.Repeat("(", api.MaxDeep)
	checkBad(t, "x"+deep+"(", 0)
	checkBad(t, deep+"x(", api.MaxDeep)
	checkBad(t, deep+"w{(", api.MaxDeep+1)
	checkFault(t, deep+"(x", api.MaxDeep, api.RegexTooLarge)
}

func TestP401ParseOfManyBrackets(t *testing.T) {
	for deep := 1; deep <= api.MaxDeep; deep++ {
		open, closed := strings.Repeat("(", deep), strings.Repeat(")", deep)
		checkRead(t, open+"w"+closed, w)
		checkRead(t, open+"w"+closed+"*", of(api.KStar, w))
		checkRead(t, open+"w"+closed+open+"b"+closed, of(api.KJoin, w, b))
		lacking(t, open, open+"w", open+"w"+closed[1:])
		checkBad(t, open+")", deep)
		checkBad(t, open+"w"+closed+")", 2*deep+1)
	}
	open, closed := strings.Repeat("(", api.MaxDeep), strings.Repeat(")", api.MaxDeep)
	for _, behind := range []string{"", "w", "w)" + closed, ")", "x", "((((", "\xff"} {
		checkFault(t, open+"("+behind, 30, api.RegexTooLarge)
		checkFault(t, "w|"+open+"("+behind, 32, api.RegexTooLarge)
		checkFault(t, open+"w("+behind, 31, api.RegexTooLarge)
		checkFault(t, open+"w|("+behind, 32, api.RegexTooLarge)
		checkFault(t, open+"w)("+"("+behind, 33, api.RegexTooLarge)
	}
	checkRead(t, open+"w)(b)"+closed[1:], of(api.KJoin, w, b))
}

// Brackets beside one another are not within one another, however many there are.
func TestP401ParseOfBracketsSideBySide(t *testing.T) {
	want := api.Node{Kind: api.KJoin}
	for range 66 {
		want.L = append(want.L, w)
	}
	checkRead(t, strings.Repeat("(w)", 66), want)
	want = api.Node{Kind: api.KUnion}
	for range 50 {
		want.L = append(want.L, w)
	}
	checkRead(t, strings.Repeat("(w)|", 49)+"(w)", want)
}

func TestP401ParseOfLongTexts(t *testing.T) {
	want := w
	for range 199 {
		want = of(api.KStar, want)
	}
	checkRead(t, "w"+strings.Repeat("*", 199), want)
	row := api.Node{Kind: api.KJoin}
	for range 200 {
		row.L = append(row.L, w)
	}
	checkRead(t, strings.Repeat("w", 200), row)
	for _, sign := range []string{"w", "*", "(", ")", "|", "x", "\x00", "\xff", "[", "{"} {
		for _, bytes := range []int{201, 202, 256, 1000, 1 << 20} {
			checkFault(t, strings.Repeat(sign, bytes), 0, api.RegexTooLarge)
		}
	}
	checkFault(t, strings.Repeat("\u0175", 101), 0, api.RegexTooLarge) // bytes count, not runes
	checkBad(t, strings.Repeat("\u0175", 100), 0)
	checkBad(t, strings.Repeat("w", 199)+"x", 199)
	checkBad(t, strings.Repeat("w", 199)+"|", 200)
	checkBad(t, strings.Repeat("x", 200), 0)
}
