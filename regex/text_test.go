package regex_test

import (
	"strings"
	"testing"

	"milestone/api"
	"milestone/regex"
)

func checkText(t *testing.T, n api.Node, want string, size int) {
	t.Helper()
	if s := regex.Text(n); s != want {
		t.Errorf("Text of %+v: %q, not %q", n, s, want)
	}
	if got := regex.Size(n); got != size {
		t.Errorf("Size of %q: %d, not %d", want, got, size)
	}
}

func TestP402TextOfSets(t *testing.T) {
	for modes, want := range map[int]string{
		1: "w", 2: "b", 4: "c", 8: "f", 16: "t", 31: ".",
		3: "[wb]", 5: "[wc]", 17: "[wt]", 24: "[ft]", 21: "[wct]", 15: "[wbcf]", 30: "[bcft]", 29: "[wcft]",
	} {
		checkText(t, set(modes), want, 1)
	}
}

func TestP402TextOfEachKind(t *testing.T) {
	checkText(t, of(api.KEmpty), "0", 1)
	checkText(t, of(api.KNone), "_", 1)
	checkText(t, of(api.KJoin, w, b), "wb", 3)
	checkText(t, of(api.KJoin, w, b, c, set(31)), "wbc.", 5)
	checkText(t, of(api.KUnion, w, b), "w|b", 3)
	checkText(t, of(api.KUnion, w, of(api.KEmpty), of(api.KNone)), "w|0|_", 4)
	checkText(t, of(api.KStar, w), "w*", 2)
	checkText(t, of(api.KPlus, set(6)), "[bc]+", 2)
	checkText(t, of(api.KMaybe, of(api.KNone)), "_?", 2)
	for lo := range 10 {
		for hi := lo; hi < 10; hi++ {
			digits := "0123456789"
			checkText(t, times(lo, hi, w), "w{"+digits[lo:lo+1]+","+digits[hi:hi+1]+"}", 2)
		}
	}
}

func TestP402TextWithinOneThatHasASignBehind(t *testing.T) {
	for sign, n := range map[string]api.Node{"*": of(api.KStar), "+": of(api.KPlus), "?": of(api.KMaybe), "{2,7}": times(2, 7)} {
		for _, x := range []struct {
			n    api.Node
			want string
			size int
		}{
			{set(7), "[wbc]", 2}, {of(api.KEmpty), "0", 2}, {of(api.KNone), "_", 2},
			{of(api.KStar, w), "w*", 3}, {of(api.KPlus, w), "w+", 3}, {of(api.KMaybe, w), "w?", 3}, {times(0, 1, w), "w{0,1}", 3},
			{of(api.KJoin, w, b), "(wb)", 4}, {of(api.KUnion, w, b), "(w|b)", 4},
		} {
			n.L = []api.Node{x.n}
			checkText(t, n, x.want+sign, x.size)
		}
	}
}

func TestP402TextWithinJoins(t *testing.T) {
	join, union := of(api.KJoin, w, b), of(api.KUnion, w, b)
	checkText(t, of(api.KJoin, join, c), "(wb)c", 5)
	checkText(t, of(api.KJoin, c, join), "c(wb)", 5)
	checkText(t, of(api.KJoin, c, join, c), "c(wb)c", 6)
	checkText(t, of(api.KJoin, join, join), "(wb)(wb)", 7)
	checkText(t, of(api.KJoin, union, c), "(w|b)c", 5)
	checkText(t, of(api.KJoin, c, union), "c(w|b)", 5)
	checkText(t, of(api.KJoin, of(api.KStar, w), times(1, 2, b)), "w*b{1,2}", 5)
	checkText(t, of(api.KJoin, of(api.KPlus, join), of(api.KMaybe, union)), "(wb)+(w|b)?", 9)
}

func TestP402TextWithinUnions(t *testing.T) {
	join, union := of(api.KJoin, w, b), of(api.KUnion, w, b)
	checkText(t, of(api.KUnion, join, c), "wb|c", 5)
	checkText(t, of(api.KUnion, c, join), "c|wb", 5)
	checkText(t, of(api.KUnion, join, join), "wb|wb", 7)
	checkText(t, of(api.KUnion, union, c), "(w|b)|c", 5)
	checkText(t, of(api.KUnion, c, union), "c|(w|b)", 5)
	checkText(t, of(api.KUnion, union, union), "(w|b)|(w|b)", 7)
	checkText(t, of(api.KUnion, of(api.KStar, w), times(1, 2, b)), "w*|b{1,2}", 5)
	checkText(t, of(api.KUnion, of(api.KJoin, w, union), of(api.KJoin, join, c)), "w(w|b)|(wb)c", 11)
}

func TestP402TextManyLevelsDeep(t *testing.T) {
	checkText(t, of(api.KUnion, of(api.KUnion, of(api.KUnion, w, b), c), w), "((w|b)|c)|w", 7)
	checkText(t, of(api.KJoin, w, of(api.KJoin, w, of(api.KJoin, b, c))), "w(w(bc))", 7)
	checkText(t, of(api.KStar, of(api.KJoin, w, of(api.KStar, of(api.KUnion, b, of(api.KJoin, w, c))))), "(w(b|wc)*)*", 9)
	n := w
	for range 999 {
		n = of(api.KMaybe, n)
	}
	checkText(t, n, "w"+strings.Repeat("?", 999), 1000)
	n = of(api.KJoin, w, b)
	for range 998 {
		n = of(api.KUnion, n, c)
	}
	checkText(t, n, strings.Repeat("(", 997)+"wb|c"+strings.Repeat(")|c", 997), 3+2*998)
}

func TestP402SizeOfMany(t *testing.T) {
	n := api.Node{Kind: api.KUnion}
	for range 500 {
		n.L = append(n.L, of(api.KJoin, w, of(api.KStar, b), c))
	}
	if got := regex.Size(n); got != 1+500*5 {
		t.Errorf("Size: %d", got)
	}
}

// What Text and Size are handed may be no expression: they must end, and no more.
func TestP402OfWhatIsNotRight(t *testing.T) {
	wrong := []api.Node{{}, {Kind: api.KSet, L: []api.Node{w}}, of(api.KEmpty, w), of(api.KNone, w, w), of(api.KJoin), of(api.KJoin, w), of(api.KUnion), of(api.KStar), of(api.KPlus, w, b), of(api.KMaybe), times(0, 1), times(0, 1, w, b)}
	for _, x := range far {
		wrong = append(wrong, set(x), of(x, w), times(x, 1, w), times(1, x, w), api.Node{Kind: api.KStar, Set: x, Lo: x, Hi: x})
	}
	for _, n := range wrong {
		regex.Text(n)
		regex.Size(n)
		for _, m := range around(n) {
			regex.Text(m)
			regex.Size(m)
		}
	}
}
