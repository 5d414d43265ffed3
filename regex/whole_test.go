package regex_test

import (
	"reflect"
	"strconv"
	"strings"
	"testing"

	"milestone/api"
	"milestone/regex"
)

// dice are the same numbers in each run.
type dice uint64

func (d *dice) below(n int) int {
	*d = *d*6364136223846793005 + 1442695040888963407
	return int(uint64(*d)>>33) % n
}

// anyRight is a right node of any kind, at most so deep.
func (d *dice) anyRight(deep int) api.Node {
	kind := api.KSet + d.below(9)
	if deep == 0 {
		kind = api.KSet + d.below(3)
	}
	n := api.Node{Kind: kind}
	parts := 1
	switch kind {
	case api.KSet:
		n.Set = 1 + d.below(31)
		return n
	case api.KEmpty, api.KNone:
		return n
	case api.KJoin, api.KUnion:
		parts = 2 + d.below(3)
	case api.KRepeat:
		n.Lo = d.below(10)
		n.Hi = n.Lo + d.below(10-n.Lo)
	}
	for range parts {
		n.L = append(n.L, d.anyRight(deep-1))
	}
	return n
}

// deepest tells how many brackets stand within one another.
func deepest(s string) int {
	most, open := 0, 0
	for _, sign := range s {
		switch sign {
		case '(':
			open++
		case ')':
			open--
		}
		most = max(most, open)
	}
	return most
}

// checkBack tells that n comes back from its text, if Parse takes it.
func checkBack(t *testing.T, n api.Node) (isRead bool) {
	t.Helper()
	s := regex.Text(n)
	if len(s) > api.MaxRegex {
		checkFault(t, s, 0, api.RegexTooLarge)
		return false
	}
	if deepest(s) > api.MaxDeep {
		if _, _, e := regex.Parse(s); e != api.RegexTooLarge {
			t.Errorf("Parse of %q: %v", s, e)
		}
		return false
	}
	checkRead(t, s, n)
	return true
}

func TestP403OfAllKindsWithinAllKinds(t *testing.T) {
	for _, n := range kinds() {
		checkBack(t, n)
		for _, one := range around(n) {
			checkBack(t, one)
			for _, two := range around(one) {
				checkBack(t, two)
			}
		}
	}
	for modes := 1; modes <= 31; modes++ {
		checkBack(t, set(modes))
	}
}

func TestP403OfAny(t *testing.T) {
	d := dice(403)
	read := 0
	for range 20000 {
		if checkBack(t, d.anyRight(d.below(7))) {
			read++
		}
	}
	if read < 5000 {
		t.Errorf("only %d of them were read", read)
	}
}

func TestP403AtTheBounds(t *testing.T) {
	n := w
	for range 30 {
		n = of(api.KUnion, w, n)
	}
	if !checkBack(t, n) { // 29 brackets
		t.Error("29 brackets are not read")
	}
	if n = of(api.KUnion, w, n); !checkBack(t, n) {
		t.Error("30 brackets are not read")
	}
	if n = of(api.KUnion, w, n); checkBack(t, n) {
		t.Error("31 brackets are read")
	}
	n = w
	for range 199 {
		n = of(api.KPlus, n)
	}
	if !checkBack(t, n) {
		t.Error("200 bytes are not read")
	}
	if checkBack(t, of(api.KPlus, n)) {
		t.Error("201 bytes are read")
	}
}

// Without any one of its pairs of brackets a text is read as another, or not at all.
func TestP402EachBracketIsNeeded(t *testing.T) {
	d := dice(402)
	pairs := 0
	for range 3000 {
		n := d.anyRight(4)
		s := regex.Text(n)
		if len(s) > api.MaxRegex {
			continue
		}
		var open []int
		for i := range len(s) {
			switch s[i] {
			case '(':
				open = append(open, i)
			case ')':
				from := open[len(open)-1]
				open = open[:len(open)-1]
				less := s[:from] + s[from+1:i] + s[i+1:]
				if m, _, e := regex.Parse(less); e == api.OK && reflect.DeepEqual(m, n) {
					t.Fatalf("%q is read as %q", less, s)
				}
				pairs++
			}
		}
	}
	if pairs < 1000 {
		t.Errorf("only %d pairs", pairs)
	}
}

// inBrackets writes n with brackets around all that is in it, more of them here and there, and the modes of a set in any order, some twice.
func (d *dice) inBrackets(n api.Node) string {
	var parts []string
	for _, part := range n.L {
		parts = append(parts, "("+d.inBrackets(part)+")")
	}
	s := ""
	switch n.Kind {
	case api.KSet:
		s = "[" + d.modesOf(n.Set) + "]"
	case api.KEmpty:
		s = "0"
	case api.KNone:
		s = "_"
	case api.KJoin:
		s = strings.Join(parts, "")
	case api.KUnion:
		s = strings.Join(parts, "|")
	case api.KRepeat:
		s = parts[0] + "{" + strconv.Itoa(n.Lo) + "," + strconv.Itoa(n.Hi) + "}"
	default:
		s = parts[0] + map[int]string{api.KStar: "*", api.KPlus: "+", api.KMaybe: "?"}[n.Kind]
	}
	more := d.below(3)
	return strings.Repeat("(", more) + s + strings.Repeat(")", more)
}

func (d *dice) modesOf(modes int) string {
	s, told := "", 0
	for told != modes {
		if mode := d.below(api.Modes); modes>>mode&1 == 1 {
			s += "wbcft"[mode : mode+1]
			told |= 1 << mode
		}
	}
	return s
}

func TestP401ParseOfMoreThanIsNeeded(t *testing.T) {
	d := dice(401)
	read := 0
	for range 5000 {
		n := d.anyRight(d.below(6))
		s := d.inBrackets(n)
		if len(s) <= api.MaxRegex && deepest(s) <= api.MaxDeep {
			checkRead(t, s, n)
			read++
		}
	}
	if read < 1000 {
		t.Errorf("only %d of them were read", read)
	}
}

// grammar is the table of the chapter, taken at its word: it tries each way to part a text. Of braces it lets pass a first digit that is greater.
type grammar map[string]api.Node

// The keys of a grammar are a text behind a letter for what it was tried as; a zero node says that it is none.
func (g grammar) tried(as, s string, try func(string) api.Node) api.Node {
	n, is := g[as+s]
	if !is {
		n = try(s)
		g[as+s] = n
	}
	return n
}

func (g grammar) union(s string) api.Node {
	return g.tried("u", s, func(s string) api.Node {
		parts, _ := g.split(s, "|", g.join)
		return several(api.KUnion, parts)
	})
}

func (g grammar) join(s string) api.Node {
	return g.tried("j", s, func(s string) api.Node {
		parts, _ := g.split(s, "", g.one)
		return several(api.KJoin, parts)
	})
}

func several(kind int, parts []api.Node) api.Node {
	switch len(parts) {
	case 0:
		return api.Node{}
	case 1:
		return parts[0]
	}
	return of(kind, parts...)
}

// split finds parts that s is made of, with the same between each two.
func (g grammar) split(s, between string, part func(string) api.Node) (parts []api.Node, is bool) {
	if n := part(s); n.Kind != 0 {
		return []api.Node{n}, true
	}
	for i := 1; i < len(s); i++ {
		behind, is := strings.CutPrefix(s[i:], between)
		if n := part(s[:i]); is && n.Kind != 0 {
			if more, is := g.split(behind, between, part); is {
				return append([]api.Node{n}, more...), true
			}
		}
	}
	return nil, false
}

func (g grammar) one(s string) api.Node {
	return g.tried("o", s, g.tryOne)
}

func (g grammar) tryOne(s string) api.Node {
	last := len(s) - 1
	switch {
	case last < 0:
		return api.Node{}
	case s == "0":
		return of(api.KEmpty)
	case s == "_":
		return of(api.KNone)
	case s == ".":
		return set(31)
	case last == 0 && strings.Contains("wbcft", s):
		return set(1 << strings.Index("wbcft", s))
	case s[0] == '[' && s[last] == ']' && last > 1 && strings.Trim(s[1:last], "wbcft") == "":
		modes := 0
		for _, sign := range s[1:last] {
			modes |= 1 << strings.IndexRune("wbcft", sign)
		}
		return set(modes)
	case s[0] == '(' && s[last] == ')' && g.union(s[1:last]).Kind != 0:
		return g.union(s[1:last])
	}
	return g.tryBehind(s)
}

func (g grammar) tryBehind(s string) api.Node {
	last := len(s) - 1
	for sign, kind := range map[string]int{"*": api.KStar, "+": api.KPlus, "?": api.KMaybe} {
		if x, is := strings.CutSuffix(s, sign); is && g.one(x).Kind != 0 {
			return of(kind, g.one(x))
		}
	}
	if last >= 5 && s[last-4] == '{' && isDigit(s[last-3]) && s[last-2] == ',' && isDigit(s[last-1]) && s[last] == '}' && g.one(s[:last-4]).Kind != 0 {
		return times(int(s[last-3]-'0'), int(s[last-1]-'0'), g.one(s[:last-4]))
	}
	return api.Node{}
}

func isDigit(c byte) bool {
	return '0' <= c && c <= '9'
}

// begins tells whether any text that the grammar takes begins with s.
func (g grammar) begins(s string) bool {
	for _, tail := range []string{"", "w", "]", "w]", "0,0}", ",0}", "0}", "}"} {
		for closed := range strings.Count(s, "(") + 1 {
			if g.union(s+tail+strings.Repeat(")", closed)).Kind != 0 {
				return true
			}
		}
	}
	return false
}

// faultBehind is the place of the fault where s begins a text and no text goes on by one byte more: that byte's, or, if it should be a digit, that of the brace ahead of it.
func faultBehind(s string) int {
	for _, digits := range []int{0, 2} {
		if brace := len(s) - digits - 1; brace >= 0 && s[brace] == '{' && (digits == 0 || s[len(s)-1] == ',') {
			return brace
		}
	}
	return len(s)
}

// checkAll goes through all texts of at most so many of these signs, but for those that are at fault ahead of their end.
func (g grammar) checkAll(t *testing.T, s, signs string, most int) {
	t.Helper()
	if last := len(s) - 1; last > 0 && s[last] == '}' && s[last-3] > s[last-1] {
		checkBad(t, s, last-4)
		checkBad(t, s+"x", last-4)
		return
	}
	if n := g.union(s); n.Kind != 0 {
		checkRead(t, s, n)
	} else {
		checkBad(t, s, len(s))
	}
	if len(s) == most {
		return
	}
	for _, sign := range []byte(signs) {
		longer := s + string(sign)
		if g.begins(longer) {
			g.checkAll(t, longer, signs, most)
			continue
		}
		for _, behind := range []string{"", "w", ")", "0,0}"} {
			checkBad(t, longer+behind, faultBehind(s))
		}
	}
}

// All short texts are read, and refused, as the table says.
func TestP401AsTheTableSays(t *testing.T) {
	grammar{}.checkAll(t, "", "wt.[]0_()*+?{}1,|x", 4)
	grammar{}.checkAll(t, "", "b[()*|", 6)
	grammar{}.checkAll(t, "", "(c{32,}", 7)
}

// Any bytes: Parse ends, refuses with nothing beside the place, or answers what is right, and is read again from its text.
func TestP1ParseOfAnyBytes(t *testing.T) {
	d := dice(1)
	read := 0
	for i := range 60000 {
		signs := "wbcft.[]0_()*+?{}0123456789,|"
		if i%2 == 0 {
			signs = "wbct()()|**{1,2}w"
		}
		s := make([]byte, d.below(2+i%13*17))
		for j := range s {
			s[j] = signs[d.below(len(signs))]
			if d.below(200) == 0 {
				s[j] = byte(d.below(256))
			}
		}
		n, at, e := regex.Parse(string(s))
		switch {
		case e == api.OK && at == 0 && regex.Right(n):
			read++
			checkBack(t, n)
		case e != api.BadRegex && e != api.RegexTooLarge || at < 0 || at > len(s) || !reflect.DeepEqual(n, api.Node{}):
			t.Fatalf("Parse of %q: %v at %d, %+v", s, e, at, n)
		}
	}
	if read < 1000 {
		t.Errorf("only %d of them were read", read)
	}
}

const long = "w(b|c)*[ft]{1,3}((w|b)|(c.)+|0)?_|(w(bc)t)*+{0,9}|t"

// lists are all lists of a node, with their spare room.
func lists(n api.Node) [][]api.Node {
	found := [][]api.Node{n.L[:cap(n.L)]}
	for _, part := range n.L {
		found = append(found, lists(part)...)
	}
	return found
}

func TestP2NoTwoListsShareMemory(t *testing.T) {
	d := dice(2)
	texts := []string{long}
	for range 300 {
		texts = append(texts, regex.Text(d.anyRight(5)))
	}
	seen := map[*api.Node]bool{}
	for range 2 {
		for _, s := range texts {
			n, _, _ := regex.Parse(s)
			for _, list := range lists(n) {
				for i := range list {
					if seen[&list[i]] {
						t.Fatalf("Parse of %q: one memory twice", s)
					}
					seen[&list[i]] = true
				}
			}
		}
	}
}

func TestP2WhatIsHandedInIsNotChanged(t *testing.T) {
	n, _, _ := regex.Parse(long)
	spare := append(make([]api.Node, 0, 8), n, w)
	junk := of(api.KStar, b)
	spare[:3][2] = junk
	was, _, _ := regex.Parse(long)
	checkRight(t, of(api.KJoin, spare...), true)
	checkText(t, of(api.KJoin, spare...), "("+long+")w", 2+regex.Size(was))
	if !reflect.DeepEqual(spare[:3], []api.Node{was, w, junk}) {
		t.Errorf("changed: %+v", spare[:3])
	}
}

func TestP3TheSameCallsAnswerTheSame(t *testing.T) {
	ask := func() (told []any) {
		for _, s := range []string{long, "", "w{3,2}", "((", "w|b", strings.Repeat("(", 31), strings.Repeat("w", 201), long} {
			n, at, e := regex.Parse(s)
			told = append(told, n, at, e, regex.Right(n), regex.Text(n), regex.Size(n))
		}
		return told
	}
	if first, again := ask(), ask(); !reflect.DeepEqual(first, again) {
		t.Errorf("%v, then %v", first, again)
	}
}
