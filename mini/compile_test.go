package mini_test

import (
	"strings"
	"testing"

	"milestone/api"
	"milestone/dfa"
	"milestone/match"
	"milestone/mini"
	"milestone/nfa"
	"milestone/regex"
)

func checkCompile(t *testing.T, text, rows string) {
	t.Helper()
	d, e := mini.Compile(text)
	if e != api.OK || !isSame(d, machine(rows)) {
		t.Errorf("Compile of %s: %v, %s, not %s", text, e, show(d), rows)
	}
}

func checkRefused(t *testing.T, text string, want api.Errno) {
	t.Helper()
	if d, e := mini.Compile(text); e != want || d.Next != nil || d.Accept != nil {
		t.Errorf("Compile of %.200q: %v, %s, not %v", text, e, show(d), want)
	}
}

// compiled is the machine of a text that has one.
func compiled(t *testing.T, text string) api.Dfa {
	t.Helper()
	d, e := mini.Compile(text)
	if e != api.OK {
		t.Fatalf("Compile of %s: %v", text, e)
	}
	return d
}

func TestP802CompileOfEachKind(t *testing.T) {
	checkCompile(t, "w", "12222 22222! 22222")
	checkCompile(t, "b", "12111 11111 11111!")
	checkCompile(t, "c", "11211 11111 11111!")
	checkCompile(t, "f", "11121 11111 11111!")
	checkCompile(t, "t", "11112 11111 11111!")
	checkCompile(t, ".", "11111 22222! 22222")
	checkCompile(t, "[wf]", "12212 22222! 22222")
	checkCompile(t, "[bct]", "12212 11111 11111!")
	checkCompile(t, "0", "00000")
	checkCompile(t, "_", "11111! 11111")
	checkCompile(t, "wb", "12222 23222 22222 22222!")
	checkCompile(t, "w|b", "11222 22222! 22222")
	checkCompile(t, "w*", "01111! 11111")
	checkCompile(t, "w+", "12222 12222! 22222")
	checkCompile(t, "w?", "12222! 22222! 22222")
	checkCompile(t, "w{0,0}", "11111! 11111")
	checkCompile(t, "w{0,2}", "12222! 32222! 22222 22222!")
	checkCompile(t, "w{2,2}", "12222 32222 22222 22222!")
	checkCompile(t, "w{2,3}", "12222 32222 22222 42222! 22222!")
	checkCompile(t, "(w|b)*", "00111! 11111")
	checkCompile(t, "(wb)*", "12222! 20222 22222")
	checkCompile(t, ".*", "00000!")
	checkCompile(t, ".+", "11111 11111!")
	checkCompile(t, ".*t", "00001 00001!")
	checkCompile(t, "w(b|[tf])*", "12222 21211! 22222")
	checkCompile(t, "w+[cf]t*", "12222 12332 22222 22223!")
}

// Much that the machines on the way have is not needed.
func TestP802CompileMakesThemLeast(t *testing.T) {
	checkCompile(t, "w0", "00000")
	checkCompile(t, "0*", "11111! 11111")
	checkCompile(t, ".*|w{9,9}", "00000!")
	checkCompile(t, "w|w|w|w|ww0", "12222 22222! 22222")
	checkCompile(t, "(w*b*c*f*t*)*", "00000!")
	checkCompile(t, "(.w|.b|.c|.f|.t)*", "11111! 00000")
	checkCompile(t, "(_|w|ww|www)*", "01111! 11111")
}

func TestP802CompileOfTextsThatAreNotRead(t *testing.T) {
	for _, text := range []string{"", "(", ")", "()", "w|", "|", "*", "w)", "x", "w{2,1}", "w{1}", "w{", "[", "[]", "[w", "w b", "W", "w\x00", "\xff", "(w", "((w)"} {
		checkRefused(t, text, api.BadRegex)
	}
	deep := strings.Repeat("(", api.MaxDeep)
	checkRefused(t, deep+"(w)"+strings.Repeat(")", api.MaxDeep), api.RegexTooLarge)
	checkRefused(t, strings.Repeat("w", 201), api.RegexTooLarge)
	checkRefused(t, strings.Repeat("*", 201), api.RegexTooLarge)
	checkRefused(t, strings.Repeat(")", 1000000), api.RegexTooLarge)
	checkRefused(t, strings.Repeat("w", 199)+"(", api.BadRegex)
	checkCompile(t, deep+"w"+strings.Repeat(")", api.MaxDeep), "12222 22222! 22222")
	checkCompile(t, "w"+strings.Repeat("*", 199), "01111! 11111")
}

// states is how many the text's machine of many ways has, how many that of one way, as it is made of it; 0 ones, if it is not made.
func states(text string) (many, one int) {
	n, _, _ := regex.Parse(text)
	m, _ := nfa.Build(n)
	d, _ := dfa.Subsets(m, 2000)
	return m.N, len(d.Next)
}

func TestP802CompileOfExpressionsThatAreNotBuilt(t *testing.T) {
	checkRefused(t, "w{9,9}{9,9}{9,9}", api.RegexTooLarge)
	checkRefused(t, "(w{9,9}{9,9}{9,9}|.)*", api.RegexTooLarge)
	checkRefused(t, "_{9,9}{9,9}{7,7}", api.RegexTooLarge)
	checkRefused(t, "0{0,9}{0,9}{0,9}{0,9}", api.RegexTooLarge)
	just := "_{9,9}{9,9}{5,5}" + strings.Repeat("_", 44)
	if many, _ := states(just); many != api.MaxStates {
		t.Fatalf("%d states", many)
	}
	checkCompile(t, just, "11111! 11111")
	checkRefused(t, just+"_", api.RegexTooLarge)
	checkRefused(t, "("+just+")*", api.RegexTooLarge)
}

// checkCap compiles a text whose machine has so many states before it is made least.
func checkCap(t *testing.T, text string, many int, want api.Dfa) {
	t.Helper()
	if _, one := states(text); one != many {
		t.Errorf("%s: %d states, not %d", text, one, many)
	}
	if many > 200 {
		checkRefused(t, text, api.DfaTooLarge)
		return
	}
	if d := compiled(t, text); !isSame(d, want) {
		t.Errorf("Compile of %s: %s, not %s", text, show(d), show(want))
	}
}

// How many states there are counts before they are made least, be there few then, or as many.
func TestP802CompileAtTheCap(t *testing.T) {
	row := strings.Repeat("w", 198)
	checkCap(t, row[1:], 199, only(make([]int, 197)...))
	checkCap(t, row, 200, only(make([]int, 198)...))
	checkCap(t, row+"w", 201, api.Dfa{})
	checkCap(t, row+"ww", 202, api.Dfa{})
	long := "w{9,9}{9,9}{2,2}w{9,9}{4,4}" // of 198 modes
	checkCap(t, long, 200, only(make([]int, 198)...))
	checkCap(t, long+"|.*", 200, machine("00000!"))
	checkCap(t, long+"w|.*", 201, api.Dfa{})
	checkCap(t, long+"0", 200, machine("00000"))
	checkCap(t, "w"+long+"0", 201, api.Dfa{})
	checkCap(t, "[wb]*w[wb]{6,6}", 130, numbered(mini.Minimize(window(7))))
	checkCap(t, "[wb]*w[wb]{7,7}", 258, api.Dfa{})
	checkCap(t, "(w{9,9}{2,2})*|(w{9,9}ww)*|.*", 200, machine("00000!"))
}

// window is a machine that keeps which of the last so many modes, none but w and b, were w, and accepts where the first of these was.
func window(many int) api.Dfa {
	d := sized(1<<many + 1)
	dead := 1 << many
	for kept := range dead {
		on := kept * 2 % dead
		d.Next[kept] = [api.Modes]int{on + 1, on, dead, dead, dead}
		d.Accept[kept] = kept >= dead/2
	}
	d.Next[dead] = to(dead)
	return d
}

func TestP802CompileByDice(t *testing.T) {
	d := dice(802)
	words := everyWord(3)
	for i := range 1500 {
		n := d.anyRight(1 + i%5)
		text := regex.Text(n)
		if len(text) > api.MaxRegex {
			checkRefused(t, text, api.RegexTooLarge)
			continue
		}
		many, e := nfa.Build(n)
		if e != api.OK {
			checkRefused(t, text, e)
			continue
		}
		one, e := dfa.Subsets(many, 200)
		if e != api.OK {
			checkRefused(t, text, api.DfaTooLarge)
			continue
		}
		got := compiled(t, text)
		if !isSame(got, plainly(one)) {
			t.Fatalf("Compile of %s: %s, not %s", text, show(got), show(plainly(one)))
		}
		for _, row := range words {
			if dfa.Run(got, row) != match.Match(n, row) {
				t.Fatalf("Compile of %s: %s, by %v", text, show(got), row)
			}
		}
	}
}

// Whatever bytes there are, they are compiled just where they are read, built and not too large.
func TestP802CompileOfAnyText(t *testing.T) {
	d := dice(8021)
	signs := "wwbcft..[]()(())**+??{}{,1,2}019||__0x "
	read := 0
	for range 40000 {
		var text []byte
		for range d.below(12) {
			text = append(text, signs[d.below(len(signs))])
		}
		if d.below(10) == 0 {
			text = append(text, byte(d.below(256)))
		}
		n, _, want := regex.Parse(string(text))
		if want != api.OK {
			checkRefused(t, string(text), want)
			continue
		}
		got, e := mini.Compile(string(text))
		many, f := nfa.Build(n)
		if e != f {
			t.Errorf("Compile of %s: %v, not %v", text, e, f)
		} else if e == api.OK && dfa.Run(got, []int{0}) != nfa.Run(many, []int{0}) {
			t.Errorf("Compile of %s: %s", text, show(got))
		}
		read++
	}
	if read < 1000 {
		t.Errorf("%d are read", read)
	}
}

// checkOne holds the machines of texts against each other.
func checkOne(t *testing.T, one, two string, want bool) {
	t.Helper()
	a, b := compiled(t, one), compiled(t, two)
	if row, is := mini.Apart(a, b); mini.Same(a, b) != want || isSame(a, b) != want || is == want {
		t.Errorf("%s, %s: %s, %s, apart by %v, %v", one, two, show(a), show(b), row, is)
	}
}

func TestP803OfOneLanguage(t *testing.T) {
	for _, texts := range []string{
		"0 w0 0w 0|0 0+ [wb]0*0 0{2,3} (0|0w)b",
		"_ 0* 0? _* _+ _? __ _|_ w{0,0} .{0,0} _{3,5} 0{0,4} (0|_)+ _|w0 (_|0)(_|0)",
		"w (w) w|w w_ _w w{1,1} [w] [ww] w|0 w|ww0 (w|w)(_|0)",
		". [wbcft] w|b|c|f|t [wb]|[bcft] t|f|c|b|w .|w",
		"w* w** (w*)+ (w+)* (w?)* (w*)? w*w* w?w* w+|_ _|w|www* (ww)*w? (_|w)* (ww|www|w)* (w*){2,3} (w{0,2}){0,9}w* (ww)*|w(ww)*",
		"w+ ww* w*w (w+)+ w|ww+ ww?w* w{1,9}w* w+|w w+w*",
		"(w|b)* [wb]* (w*b*)* (b*w*)* (w+|b+)* w*(bw*)* (w*b)*w* ([wb][wb])*[wb]? (w|b|wb|bw)* (_|w|b)*",
		"(wb)*w w(bw)* w|wb(wb)*w w(bw)*|wbw",
		"w{2,4} ww(w(w|_)|_) ww|www|wwww www?w? (ww|www)w? w{1,2}w{1,2} w{2,4}|w{3,3} w{1,1}w{1,3} w?w?ww",
		"wb|wc w(b|c) w[bc] wc|wb w[cb]_ (w|0)[bc]",
		"wc|bc [wb]c (w|b)c bc|wc|wc",
		".* (.*)* .*.* (.?)* (w*b*c*f*t*)* .*|w .*w?.* (..)*.? (t|.)* (...)*.{0,2}",
		".*w.*b.* .*w([wcft])*b.* .*(w.*b).* [bcft]*w[wcft]*b.* .*w.*w.*b.*|[bcft]*w[wcft]*b.*",
		"(w|bb)*b (bb|w)*b w*b(bw*b)* w*b(bb|bw+b)*",
	} {
		list := strings.Fields(texts)
		for i, one := range list {
			for _, two := range list[i:] {
				checkOne(t, one, two, true)
			}
		}
	}
}

func TestP803OfOtherLanguages(t *testing.T) {
	list := strings.Fields("0 _ w b c f t . [wb] [bcft] wb bw ww w* w+ w? b* (wb)* (bw)* (wb)+ w*b* (w|b)* (ww)* (www)* .* .+ ..* (..)* w.* .*w .*w.* w|b* (w|b)+ w{2,3} w{2,4} w{0,2} [wb]{2,2}")
	for i, one := range list {
		for k, two := range list {
			checkOne(t, one, two, i == k || strings.Contains(" .+ ..* ", " "+one+" ") && strings.Contains(" .+ ..* ", " "+two+" "))
		}
	}
}

// but is a text of all words, of which this one, by its signs, is taken away.
func but(signs string) string {
	rest, done := []string{}, ""
	for _, sign := range signs {
		rest = append(rest, done+"("+strings.ReplaceAll("[wbcft]", string(sign), "")+".*)?")
		done += string(sign)
	}
	return strings.Join(append(rest, done+".+"), "|")
}

// checkByOne holds two texts whose languages differ by this word alone, of their signs.
func checkByOne(t *testing.T, one, two, signs string) {
	t.Helper()
	checkOne(t, one, two, false)
	checkApart(t, compiled(t, one), compiled(t, two), word(signs), true)
}

func TestP803OfLanguagesThatDifferByOneWord(t *testing.T) {
	checkByOne(t, "0", "_", "-")
	checkByOne(t, "w*", "w+", "-")
	checkByOne(t, ".*", ".+", "-")
	checkByOne(t, "(wb)*", "(wb)+", "-")
	checkByOne(t, "0", "twft", "twft")
	checkByOne(t, "_", "w?", "w")
	checkByOne(t, "w", "[wt]", "t")
	checkByOne(t, "[wbcf]", ".", "t")
	checkByOne(t, "w{0,8}", "w{0,9}", "wwwwwwwww")
	checkByOne(t, "w{2,9}", "w{3,9}", "ww")
	checkByOne(t, "w*", "_|www*", "w")
	checkByOne(t, "w*", "_|w|ww|wwwww*", "www")
	checkByOne(t, "w*", "w{0,7}|w{9,9}w*", "wwwwwwww")
	checkByOne(t, "wb|w", "wb|wc|w", "wc")
	checkByOne(t, "w{9,9}{9,9}b", "w{9,9}{9,9}[bt]", strings.Repeat("w", 81)+"t")
	checkByOne(t, "[wb]{3,3}", "[wb]{2,2}w|[wb]wb|bbb", "wbb")
	for _, signs := range []string{"w", "t", "wb", "tt", "bbb", "wbcft", "ftftftf", "wwwwwwwwww"} {
		checkByOne(t, ".*", but(signs), signs)
	}
	for _, pair := range [][2]string{{"w", "b"}, {"wb", "wt"}, {"wbcf", "wbff"}, {"ttt", "tttt"}} {
		checkOne(t, but(pair[0]), but(pair[1]), false)
		checkApart(t, compiled(t, but(pair[0])), compiled(t, but(pair[1])), word(pair[0]), true)
	}
}

// With a word that it does not take an expression takes one more, with one that it takes it takes the same.
func TestP803WithOneWordByDice(t *testing.T) {
	d := dice(803)
	same, other := 0, 0
	for range 2000 {
		n := d.anyRight(1 + d.below(3))
		a, e := mini.Compile(regex.Text(n))
		row := d.anyWord(6)
		more := api.Node{Kind: api.KJoin, L: []api.Node{{Kind: api.KNone}, {Kind: api.KNone}}}
		for _, mode := range row {
			more.L = append(more.L, api.Node{Kind: api.KSet, Set: 1 << mode})
		}
		b, f := mini.Compile(regex.Text(api.Node{Kind: api.KUnion, L: []api.Node{n, more}}))
		if e != api.OK || f != api.OK {
			continue
		}
		if match.Match(n, row) {
			same++
			checkApart(t, a, b, nil, false)
			checkSame(t, a, b, true)
		} else {
			other++
			checkApart(t, a, b, row, true)
			checkSame(t, a, b, false)
		}
	}
	if same < 200 || other < 1000 {
		t.Errorf("%d the same, %d others", same, other)
	}
}

// Of any expressions by dice: their machines are one just where no word is in one language alone.
func TestP803ByDice(t *testing.T) {
	d := dice(8031)
	words := everyWord(3)
	same := 0
	for range 2000 {
		m, n := d.anyRight(1+d.below(2)), d.anyRight(1+d.below(2))
		a, e := mini.Compile(regex.Text(m))
		b, f := mini.Compile(regex.Text(n))
		if e != api.OK || f != api.OK {
			continue
		}
		want, is := plainApart(a, b)
		checkApart(t, a, b, want, is)
		checkSame(t, a, b, !is)
		if match.Match(m, want) != match.Match(n, want) != is {
			t.Errorf("%s, %s: %v", regex.Text(m), regex.Text(n), want)
		}
		for _, row := range words {
			if !is && match.Match(m, row) != match.Match(n, row) {
				t.Errorf("%s, %s: %v", regex.Text(m), regex.Text(n), row)
			}
		}
		if !is {
			same++
		}
	}
	if same < 50 {
		t.Errorf("%d are one", same)
	}
}

// Expressions that are one by what they are made of, whatever their parts are.
func TestP803OfPartsByDice(t *testing.T) {
	d := dice(8032)
	for range 200 {
		x, y, z := d.anyText(), d.anyText(), d.anyText()
		for _, pair := range [][2]string{
			{"x|y", "y|x"}, {"x|x", "x"}, {"x(y|z)", "xy|xz"}, {"(x|y)z", "xz|yz"}, {"(xy)z", "x(yz)"}, {"(x|y)*", "(x*y*)*"}, {"(x*)*", "x*"}, {"xx*", "x+"}, {"_|x+", "x*"}, {"x?", "_|x"},
			{"x(yx)*", "(xy)*x"}, {"x{1,3}", "xx?x?"}, {"x{0,2}", "_|x|xx"}, {"(x|y)*", "x*(yx*)*"}, {"x|0", "x"}, {"x0y", "0"}, {"_x_", "x"}, {"x*x*", "x*"}, {"(x?)+", "x*"}, {"x{2,2}|x{3,3}", "x{2,3}"},
		} {
			parts := strings.NewReplacer("x", "("+x+")", "y", "("+y+")", "z", "("+z+")")
			a, e := mini.Compile(parts.Replace(pair[0]))
			b, f := mini.Compile(parts.Replace(pair[1]))
			if e == api.OK && f == api.OK && !mini.Same(a, b) {
				t.Errorf("%v of %s, %s, %s: %s, %s", pair, x, y, z, show(a), show(b))
			}
		}
	}
}

// anyText is a short one.
func (d *dice) anyText() string {
	for {
		if text := regex.Text(d.anyRight(2)); len(text) <= 20 {
			return text
		}
	}
}
