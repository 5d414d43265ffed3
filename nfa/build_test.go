package nfa_test

import (
	"slices"
	"testing"

	"milestone/api"
	"milestone/nfa"
	"milestone/regex"
)

// set, of, times make nodes.
func set(modes int) api.Node {
	return api.Node{Kind: api.KSet, Set: modes}
}

func of(kind int, parts ...api.Node) api.Node {
	return api.Node{Kind: kind, L: parts}
}

func times(lo, hi int, part api.Node) api.Node {
	return api.Node{Kind: api.KRepeat, Lo: lo, Hi: hi, L: []api.Node{part}}
}

var (
	w     = set(1)
	b     = set(2)
	empty = of(api.KEmpty)
	none  = of(api.KNone)
)

func isSame(n, m api.Nfa) bool {
	return n.N == m.N && n.Start == m.Start && n.End == m.End && slices.Equal(n.Steps, m.Steps) && slices.Equal(n.Free, m.Free)
}

func checkBuild(t *testing.T, n api.Node, want api.Nfa) {
	t.Helper()
	got, e := nfa.Build(n)
	if e != api.OK || !isSame(got, want) {
		t.Errorf("Build of %.200s: %v %v, not %v", regex.Text(n), e, got, want)
	}
	checkIs(t, "what is built", got, true)
}

func checkLarge(t *testing.T, n api.Node) {
	t.Helper()
	got, e := nfa.Build(n)
	if e != api.RegexTooLarge || got.N != 0 || got.Start != 0 || got.End != 0 || got.Steps != nil || got.Free != nil {
		t.Errorf("Build of %.200s: %v, %d states", regex.Text(n), e, got.N)
	}
}

// made is a machine: how many states it has, Start, End; its Steps from, to, by which set, one behind the other; its Free from, to.
func made(states, start, end int, steps, free []int) api.Nfa {
	n := api.Nfa{N: states, Start: start, End: end}
	for row := range slices.Chunk(steps, 3) {
		n.Steps = append(n.Steps, api.Step{From: row[0], To: row[1], Set: row[2]})
	}
	for row := range slices.Chunk(free, 2) {
		n.Free = append(n.Free, [2]int{row[0], row[1]})
	}
	return n
}

func TestP602BuildOfOne(t *testing.T) {
	for modes := 1; modes <= 31; modes++ {
		checkBuild(t, set(modes), made(2, 0, 1, []int{0, 1, modes}, nil))
	}
	checkBuild(t, empty, made(2, 0, 1, nil, nil))
	checkBuild(t, none, made(2, 0, 1, nil, []int{0, 1}))
}

func TestP602BuildOfJoins(t *testing.T) {
	checkBuild(t, of(api.KJoin, w, b), made(4, 0, 3, []int{0, 1, 1, 2, 3, 2}, []int{1, 2}))
	checkBuild(t, of(api.KJoin, w, empty, b), made(6, 0, 5, []int{0, 1, 1, 4, 5, 2}, []int{1, 2, 3, 4}))
	checkBuild(t, of(api.KJoin, none, w, none), made(6, 0, 5, []int{2, 3, 1}, []int{0, 1, 4, 5, 1, 2, 3, 4}))
	checkBuild(t, of(api.KJoin, of(api.KJoin, w, b), w), made(6, 0, 5, []int{0, 1, 1, 2, 3, 2, 4, 5, 1}, []int{1, 2, 3, 4}))
	checkBuild(t, of(api.KJoin, w, of(api.KJoin, w, b)), made(6, 0, 5, []int{0, 1, 1, 2, 3, 1, 4, 5, 2}, []int{3, 4, 1, 2}))
	checkBuild(t, of(api.KJoin, of(api.KStar, w), of(api.KPlus, b)), made(8, 0, 7, []int{1, 2, 1, 5, 6, 2}, []int{0, 1, 0, 3, 2, 1, 2, 3, 4, 5, 6, 5, 6, 7, 3, 4}))
}

func TestP602BuildOfUnions(t *testing.T) {
	checkBuild(t, of(api.KUnion, w, b), made(6, 0, 5, []int{1, 2, 1, 3, 4, 2}, []int{0, 1, 2, 5, 0, 3, 4, 5}))
	checkBuild(t, of(api.KUnion, w, empty, b), made(8, 0, 7, []int{1, 2, 1, 5, 6, 2}, []int{0, 1, 2, 7, 0, 3, 4, 7, 0, 5, 6, 7}))
	checkBuild(t, of(api.KUnion, none, of(api.KJoin, w, b)), made(8, 0, 7, []int{3, 4, 1, 5, 6, 2}, []int{1, 2, 4, 5, 0, 1, 2, 7, 0, 3, 6, 7}))
	checkBuild(t, of(api.KUnion, of(api.KUnion, w, b), w), made(10, 0, 9, []int{2, 3, 1, 4, 5, 2, 7, 8, 1}, []int{1, 2, 3, 6, 1, 4, 5, 6, 0, 1, 6, 9, 0, 7, 8, 9}))
}

func TestP602BuildOfLoops(t *testing.T) {
	checkBuild(t, of(api.KStar, w), made(4, 0, 3, []int{1, 2, 1}, []int{0, 1, 0, 3, 2, 1, 2, 3}))
	checkBuild(t, of(api.KPlus, w), made(4, 0, 3, []int{1, 2, 1}, []int{0, 1, 2, 1, 2, 3}))
	checkBuild(t, of(api.KMaybe, w), made(4, 0, 3, []int{1, 2, 1}, []int{0, 1, 0, 3, 2, 3}))
	checkBuild(t, of(api.KStar, none), made(4, 0, 3, nil, []int{1, 2, 0, 1, 0, 3, 2, 1, 2, 3}))
	checkBuild(t, of(api.KPlus, empty), made(4, 0, 3, nil, []int{0, 1, 2, 1, 2, 3}))
	checkBuild(t, of(api.KMaybe, of(api.KJoin, w, b)), made(6, 0, 5, []int{1, 2, 1, 3, 4, 2}, []int{2, 3, 0, 1, 0, 5, 4, 5}))
	checkBuild(t, of(api.KPlus, of(api.KJoin, w, b)), made(6, 0, 5, []int{1, 2, 1, 3, 4, 2}, []int{2, 3, 0, 1, 4, 1, 4, 5}))
	checkBuild(t, of(api.KPlus, of(api.KMaybe, w)), made(6, 0, 5, []int{2, 3, 1}, []int{1, 2, 1, 4, 3, 4, 0, 1, 4, 1, 4, 5}))
}

func TestP602BuildOfRepeats(t *testing.T) {
	checkBuild(t, times(0, 0, w), made(2, 0, 1, nil, []int{0, 1}))
	checkBuild(t, times(0, 1, w), made(4, 0, 3, []int{1, 2, 1}, []int{0, 1, 2, 3, 0, 3}))
	checkBuild(t, times(1, 1, w), made(4, 0, 3, []int{1, 2, 1}, []int{0, 1, 2, 3}))
	two := []int{1, 2, 1, 3, 4, 1}
	checkBuild(t, times(0, 2, w), made(6, 0, 5, two, []int{0, 1, 2, 5, 2, 3, 4, 5, 0, 5}))
	checkBuild(t, times(1, 2, w), made(6, 0, 5, two, []int{0, 1, 2, 5, 2, 3, 4, 5}))
	checkBuild(t, times(2, 2, w), made(6, 0, 5, two, []int{0, 1, 2, 3, 4, 5}))
	three := []int{1, 2, 1, 3, 4, 1, 5, 6, 1}
	checkBuild(t, times(0, 3, w), made(8, 0, 7, three, []int{0, 1, 2, 7, 2, 3, 4, 7, 4, 5, 6, 7, 0, 7}))
	checkBuild(t, times(1, 3, w), made(8, 0, 7, three, []int{0, 1, 2, 7, 2, 3, 4, 7, 4, 5, 6, 7}))
	checkBuild(t, times(2, 3, w), made(8, 0, 7, three, []int{0, 1, 2, 3, 4, 7, 4, 5, 6, 7}))
	checkBuild(t, times(3, 3, w), made(8, 0, 7, three, []int{0, 1, 2, 3, 4, 5, 6, 7}))
}

// The parts' own Free stand ahead of those that lead to them, those of the first part first.
func TestP602BuildOfRepeatsOfSeveral(t *testing.T) {
	row := of(api.KJoin, w, b)
	checkBuild(t, times(1, 2, row), made(10, 0, 9, []int{1, 2, 1, 3, 4, 2, 5, 6, 1, 7, 8, 2}, []int{2, 3, 6, 7, 0, 1, 4, 9, 4, 5, 8, 9}))
	checkBuild(t, times(0, 2, none), made(6, 0, 5, nil, []int{1, 2, 3, 4, 0, 1, 2, 5, 2, 3, 4, 5, 0, 5}))
	checkBuild(t, times(2, 2, empty), made(6, 0, 5, nil, []int{0, 1, 2, 3, 4, 5}))
	checkBuild(t, times(2, 2, times(0, 1, w)), made(10, 0, 9, []int{2, 3, 1, 6, 7, 1}, []int{1, 2, 3, 4, 1, 4, 5, 6, 7, 8, 5, 8, 0, 1, 4, 5, 8, 9}))
	checkBuild(t, of(api.KJoin, b, times(0, 1, w)), made(6, 0, 5, []int{0, 1, 2, 3, 4, 1}, []int{2, 3, 4, 5, 2, 5, 1, 2}))
	checkBuild(t, of(api.KJoin, b, times(2, 2, w), b), made(10, 0, 9, []int{0, 1, 2, 3, 4, 1, 5, 6, 1, 8, 9, 2}, []int{2, 3, 4, 5, 6, 7, 1, 2, 7, 8}))
	checkBuild(t, of(api.KUnion, times(0, 0, row), b), made(6, 0, 5, []int{3, 4, 2}, []int{1, 2, 0, 1, 2, 5, 0, 3, 4, 5}))
}

// plain makes a machine as the chapter's words go, each part anew, however many states it has.
type plain struct {
	n api.Nfa
}

func plainly(n api.Node) api.Nfa {
	var p plain
	p.n.Start, p.n.End = p.part(n)
	return p.n
}

func (p *plain) state() int {
	p.n.N++
	return p.n.N - 1
}

func (p *plain) free(pairs ...[2]int) {
	p.n.Free = append(p.n.Free, pairs...)
}

func (p *plain) part(n api.Node) (s, e int) {
	if n.Kind == api.KJoin {
		return p.join(n.L)
	}
	s = p.state()
	var from, to []int
	parts := n.L
	if n.Kind == api.KRepeat {
		parts = slices.Repeat(n.L, n.Hi)
	}
	for _, one := range parts {
		a, z := p.part(one)
		from, to = append(from, a), append(to, z)
	}
	e = p.state()
	switch n.Kind {
	case api.KSet:
		p.n.Steps = append(p.n.Steps, api.Step{From: s, To: e, Set: n.Set})
	case api.KNone:
		p.free([2]int{s, e})
	case api.KUnion:
		for i := range parts {
			p.free([2]int{s, from[i]}, [2]int{to[i], e})
		}
	case api.KStar:
		p.free([2]int{s, from[0]}, [2]int{s, e}, [2]int{to[0], from[0]}, [2]int{to[0], e})
	case api.KPlus:
		p.free([2]int{s, from[0]}, [2]int{to[0], from[0]}, [2]int{to[0], e})
	case api.KMaybe:
		p.free([2]int{s, from[0]}, [2]int{s, e}, [2]int{to[0], e})
	case api.KRepeat:
		p.repeat(n, s, e, from, to)
	}
	return s, e
}

func (p *plain) join(l []api.Node) (s, e int) {
	var from, to []int
	for _, one := range l {
		a, z := p.part(one)
		from, to = append(from, a), append(to, z)
	}
	for i := range len(l) - 1 {
		p.free([2]int{to[i], from[i+1]})
	}
	return from[0], to[len(l)-1]
}

func (p *plain) repeat(n api.Node, s, e int, from, to []int) {
	if n.Hi > 0 {
		p.free([2]int{s, from[0]})
	}
	for time := 1; time <= n.Hi; time++ {
		if time == n.Hi || time >= n.Lo {
			p.free([2]int{to[time-1], e})
		}
		if time < n.Hi {
			p.free([2]int{to[time-1], from[time]})
		}
	}
	if n.Lo == 0 {
		p.free([2]int{s, e})
	}
}

func TestP602BuildOfAllRepeats(t *testing.T) {
	row := of(api.KJoin, w, of(api.KStar, b), none)
	for lo := range 10 {
		for hi := lo; hi <= 9; hi++ {
			for _, part := range []api.Node{w, empty, none, row, times(1, 3, w), times(0, 0, row), of(api.KUnion, row, times(2, 3, row))} {
				checkBuild(t, times(lo, hi, part), plainly(times(lo, hi, part)))
				inner := times(lo, hi, times(hi-lo, hi, part))
				if want := plainly(inner); want.N > api.MaxStates {
					checkLarge(t, inner)
				} else {
					checkBuild(t, inner, want)
				}
			}
		}
	}
}

func TestP602BuildOfEachKindInEach(t *testing.T) {
	ones := []api.Node{w, b, empty, none}
	for range 2 {
		var within []api.Node
		for _, n := range ones {
			within = append(within, n, of(api.KJoin, n, w), of(api.KJoin, b, n, n), of(api.KUnion, n, b), of(api.KUnion, w, n, n), of(api.KStar, n), of(api.KPlus, n), of(api.KMaybe, n), times(0, 2, n), times(2, 3, n), times(0, 0, n))
		}
		ones = within
	}
	for _, n := range ones {
		checkBuild(t, n, plainly(n))
	}
}

// rowOf is so many sets, one behind the other: two states each.
func rowOf(many int) api.Node {
	var row []api.Node
	for i := range many {
		row = append(row, set(1+i%31))
	}
	return of(api.KJoin, row...)
}

func TestP602BuildOfTheLargest(t *testing.T) {
	just := []api.Node{
		rowOf(500),
		of(api.KUnion, rowOf(250), rowOf(249)),
		of(api.KUnion, rowOf(499).L...),
		of(api.KStar, rowOf(499)),
		of(api.KPlus, rowOf(499)),
		of(api.KMaybe, rowOf(499)),
		times(1, 1, rowOf(499)),
		times(0, 1, rowOf(499)),
		of(api.KJoin, w, times(2, 2, of(api.KStar, rowOf(248)))),
		of(api.KJoin, times(2, 4, rowOf(124)), rowOf(3)),
		of(api.KJoin, times(9, 9, rowOf(55)), of(api.KStar, w), rowOf(2)),
		of(api.KJoin, rowOf(498), times(0, 0, rowOf(1000)), times(0, 0, times(0, 0, w))),
	}
	for i, n := range just {
		if got, e := nfa.Build(n); e != api.OK || got.N != api.MaxStates {
			t.Errorf("%d: %v, %d states", i, e, got.N)
		}
		checkBuild(t, n, plainly(n))
		for _, more := range []api.Node{of(api.KJoin, n, w), of(api.KJoin, w, n), of(api.KJoin, empty, n), of(api.KUnion, n, w), of(api.KUnion, none, n), of(api.KStar, n), of(api.KPlus, n), of(api.KMaybe, n), times(0, 1, n), times(1, 1, n), times(0, 9, n), times(9, 9, n)} {
			checkLarge(t, more)
		}
		checkBuild(t, times(0, 0, n), made(2, 0, 1, nil, []int{0, 1}))
	}
}

func TestP602BuildOfWhatIsTooLarge(t *testing.T) {
	checkLarge(t, rowOf(501))
	checkLarge(t, rowOf(100000))
	checkLarge(t, of(api.KUnion, rowOf(500).L...))
	checkLarge(t, of(api.KStar, rowOf(500)))
	checkLarge(t, times(9, 9, times(9, 9, times(9, 9, w))))
	checkLarge(t, times(0, 9, times(0, 9, times(0, 9, empty))))
	checkLarge(t, times(5, 5, rowOf(100)))
	checkLarge(t, of(api.KUnion, of(api.KJoin, times(3, 3, rowOf(100)), times(2, 2, rowOf(100))), w))
}

// Repeats within repeats are more than any number tells: that must be seen without making them, or counting on.
func TestP602BuildOfTheDeepest(t *testing.T) {
	for _, kind := range []int{api.KStar, api.KPlus, api.KMaybe} {
		n := w
		for range 499 {
			n = of(kind, n)
		}
		checkBuild(t, n, plainly(n))
		for range 500 {
			n = of(kind, n)
			checkLarge(t, n)
		}
	}
	for hi := 1; hi <= 9; hi++ {
		n := empty
		for range 999 {
			n = times(hi/2, hi, n)
		}
		checkLarge(t, n)
		checkLarge(t, of(api.KJoin, w, n))
		checkBuild(t, times(0, 0, n), made(2, 0, 1, nil, []int{0, 1}))
	}
	left, right := w, w
	for range 499 {
		left, right = of(api.KJoin, left, b), of(api.KJoin, b, right)
	}
	checkBuild(t, left, plainly(left))
	checkBuild(t, right, plainly(right))
	checkLarge(t, of(api.KJoin, left, b))
	checkLarge(t, of(api.KJoin, b, right))
}
