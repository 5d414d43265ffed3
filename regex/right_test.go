package regex_test

import (
	"math"
	"testing"

	"milestone/api"
	"milestone/regex"
)

// set, of, times make nodes.
func set(modes int) api.Node {
	return api.Node{Kind: api.KSet, Set: modes}
}

func of(kind int, parts ...api.Node) api.Node {
	return api.Node{Kind: kind, L: parts}
}

func times(lo, hi int, parts ...api.Node) api.Node {
	return api.Node{Kind: api.KRepeat, Lo: lo, Hi: hi, L: parts}
}

var (
	w = set(1)
	b = set(2)
	c = set(4)
)

// far are numbers that are out of all bounds.
var far = []int{-1, -2, 32, 33, 64, 256, 1 << 31, 1 << 32, -1 << 31, -1 << 32, 1<<32 + 1, math.MaxInt, math.MinInt}

func checkRight(t *testing.T, n api.Node, want bool) {
	t.Helper()
	if regex.Right(n) != want {
		t.Errorf("Right of %+v: not %v", n, want)
	}
}

// kinds are one right node of each kind.
func kinds() []api.Node {
	return []api.Node{
		set(5), of(api.KEmpty), of(api.KNone), of(api.KJoin, w, b), of(api.KUnion, w, b),
		of(api.KStar, w), of(api.KPlus, w), of(api.KMaybe, w), times(2, 3, w),
	}
}

func TestP401RightOfEachKind(t *testing.T) {
	for _, n := range kinds() {
		checkRight(t, n, true)
		if n.L == nil {
			n.L = []api.Node{}
			checkRight(t, n, true)
		}
	}
}

func TestP401RightOfNoKind(t *testing.T) {
	checkRight(t, api.Node{}, false)
	for _, kind := range append([]int{0, 10, 11}, far...) {
		for _, n := range kinds() {
			n.Kind = kind
			checkRight(t, n, false)
		}
	}
}

func TestP401RightBySet(t *testing.T) {
	for modes := 1; modes <= 31; modes++ {
		checkRight(t, set(modes), true)
	}
	for _, modes := range append([]int{0}, far...) {
		checkRight(t, set(modes), false)
	}
}

func TestP401RightByHowManyParts(t *testing.T) {
	for kind, bounds := range map[int][2]int{
		api.KSet: {0, 0}, api.KEmpty: {0, 0}, api.KNone: {0, 0},
		api.KJoin: {2, 300}, api.KUnion: {2, 300},
		api.KStar: {1, 1}, api.KPlus: {1, 1}, api.KMaybe: {1, 1}, api.KRepeat: {1, 1},
	} {
		for _, count := range []int{0, 1, 2, 3, 4, 300} {
			n := api.Node{Kind: kind}
			if kind == api.KSet {
				n.Set = 1
			}
			for range count {
				n.L = append(n.L, w)
			}
			checkRight(t, n, bounds[0] <= count && count <= bounds[1])
		}
	}
}

func TestP401RightByFieldsOfOtherKinds(t *testing.T) {
	for _, n := range kinds() {
		for _, x := range append([]int{1, 2, 9, 31}, far...) {
			if n.Kind != api.KSet {
				m := n
				m.Set = x
				checkRight(t, m, false)
			}
			if n.Kind != api.KRepeat {
				m := n
				m.Lo = x
				checkRight(t, m, false)
				m.Hi = x
				checkRight(t, m, false)
				m.Lo = 0
				checkRight(t, m, false)
			}
		}
	}
}

func TestP401RightByHowOften(t *testing.T) {
	for lo := -2; lo <= 11; lo++ {
		for hi := -2; hi <= 11; hi++ {
			checkRight(t, times(lo, hi, w), 0 <= lo && lo <= hi && hi <= 9)
		}
	}
	for _, x := range far {
		checkRight(t, times(x, 5, w), false)
		checkRight(t, times(5, x, w), false)
		checkRight(t, times(x, x, w), false)
	}
}

// around are nodes with n in them, at each place.
func around(n api.Node) []api.Node {
	return []api.Node{
		of(api.KJoin, n, w), of(api.KJoin, w, n), of(api.KJoin, w, n, w), of(api.KUnion, n, w), of(api.KUnion, w, n), of(api.KUnion, w, w, n),
		of(api.KStar, n), of(api.KPlus, n), of(api.KMaybe, n), times(0, 9, n),
	}
}

func TestP401RightByWhatIsDeepWithin(t *testing.T) {
	wrong := []api.Node{{}, set(0), set(32), of(api.KEmpty, w), of(api.KJoin, w), of(api.KUnion), of(api.KStar), of(api.KPlus, w, w), times(3, 2, w), times(0, 10, w)}
	for _, n := range wrong {
		for _, one := range around(n) {
			checkRight(t, one, false)
			for _, two := range around(one) {
				checkRight(t, two, false)
			}
		}
		deep := n
		for range 999 {
			deep = of(api.KStar, deep)
		}
		checkRight(t, deep, false)
	}
	for _, n := range kinds() {
		for _, one := range around(n) {
			checkRight(t, one, true)
			for _, two := range around(one) {
				checkRight(t, two, true)
			}
		}
	}
}

func TestP401RightOfTheDeepest(t *testing.T) {
	n := w
	for i := range 999 {
		n = around(n)[i%10]
	}
	checkRight(t, n, true)
}
