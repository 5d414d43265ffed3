package query_test

import (
	"math"
	"slices"
	"testing"

	"milestone/api"
	"milestone/dfa"
	"milestone/hier"
	"milestone/mini"
	"milestone/product"
	"milestone/query"
)

// odd are numbers that bounds are held against.
var odd = []int{-3, -2, -1, 0, 1, 2, 3, 4, 5, 59, 60, 61, 400, 2000, 2001, 300000, 1<<31 - 1, 1 << 31, 1 << 32, 1<<32 + 1, 1 << 42, -1 << 31, -1 << 32, math.MaxInt, math.MaxInt - 1, math.MinInt}

func (d *dice) anyNumber() int {
	if d.below(8) == 0 {
		return odd[d.below(len(odd))]
	}
	return d.below(4) - 1
}

func (d *dice) anyNumbers() []int {
	var row []int
	for range d.below(4) {
		row = append(row, d.anyNumber())
	}
	return row
}

func (d *dice) anyLists() [][]int {
	var lists [][]int
	for range d.below(4) {
		lists = append(lists, d.anyNumbers())
	}
	return lists
}

// anyOddIndex is any index whatever.
func (d *dice) anyOddIndex() api.Index {
	x := api.Index{Net: api.Net{N: d.anyNumber()}, Rank: d.anyNumbers(), Up: d.anyLists(), Down: d.anyLists()}
	for range d.below(4) {
		x.Net.Edges = append(x.Net.Edges, api.Edge{From: d.anyNumber(), To: d.anyNumber(), Mode: d.anyNumber(), Cost: d.anyNumber()})
	}
	for range d.below(5) {
		x.Arcs = append(x.Arcs, api.Arc{From: d.anyNumber(), To: d.anyNumber(), Mode: d.anyNumber(), Cost: d.anyNumber(), Edge: d.anyNumber(), A: d.anyNumber(), B: d.anyNumber()})
	}
	return x
}

// anyOddMachine is a machine, or nearly one.
func (d *dice) anyOddMachine() api.Dfa {
	m := d.anySteady(1 + d.below(3))
	if d.below(3) == 0 {
		m.Next[d.below(len(m.Next))][d.below(api.Modes)] = d.anyNumber()
	}
	if d.below(4) == 0 {
		m.Accept = make([]bool, d.below(5))
	}
	return m
}

// places are all numbers of an index.
func places(x *api.Index) []*int {
	all := []*int{&x.Net.N}
	for i := range x.Net.Edges {
		e := &x.Net.Edges[i]
		all = append(all, &e.From, &e.To, &e.Mode, &e.Cost)
	}
	for i := range x.Arcs {
		a := &x.Arcs[i]
		all = append(all, &a.From, &a.To, &a.Mode, &a.Cost, &a.Edge, &a.A, &a.B)
	}
	for _, list := range append(slices.Concat(x.Up, x.Down), x.Rank) {
		for i := range list {
			all = append(all, &list[i])
		}
	}
	return all
}

// may tells whether query may be asked so.
func may(x api.Index, d api.Dfa, vertices ...int) bool {
	for _, v := range vertices {
		if v < 0 || v >= x.Net.N {
			return false
		}
	}
	return hier.Check(x) && dfa.Check(d)
}

// checkAny holds what is told of anything whatever: where query may not be asked so, P8 asks for no more than that it ends; that there is nothing then is this program's own. It tells whether it may.
func checkAny(t *testing.T, x api.Index, d api.Dfa, from, to int) bool {
	t.Helper()
	if !may(x, d, from, to) {
		checkRoute(t, x, d, from, to, -1)
		return false
	}
	want := byArcs(x, d, from)
	if !mini.Steady(d) {
		want = product.Costs(x.Net, d, from)
	}
	checkRoute(t, x, d, from, to, want[to])
	return true
}

func TestP1OfAnythingWhatever(t *testing.T) {
	d := dice(1)
	for range 30000 {
		checkAny(t, d.anyOddIndex(), d.anyOddMachine(), d.anyNumber(), d.anyNumber())
	}
	checkAny(t, api.Index{}, api.Dfa{}, 0, 0)
	checkAny(t, street(t), api.Dfa{}, 0, 0)
	checkAny(t, api.Index{}, steady(t, ".*"), 0, 0)
}

// Of an index that is right but for a number, or for a list.
func TestP1OfWhatIsNearlyRight(t *testing.T) {
	d := dice(11)
	asked, refused := 0, 0
	for range 30000 {
		vertices := 1 + d.below(4)
		x, m := hier.Build(d.anyNet(vertices, d.below(8))), d.anyOddMachine()
		if d.below(3) > 0 {
			all := places(&x)
			*all[d.below(len(all))] = d.anyNumber()
		}
		switch lists := [][][]int{x.Up, x.Down}[d.below(2)]; d.below(8) {
		case 0:
			v := d.below(len(lists))
			lists[v] = append(lists[v], d.anyNumber())
		case 1:
			x.Up = x.Up[:d.below(len(x.Up)+1)]
		case 2:
			x.Down = x.Down[:d.below(len(x.Down)+1)]
		case 3:
			x.Rank = append(x.Rank, d.anyNumber())
		case 4:
			x.Arcs = x.Arcs[:d.below(len(x.Arcs)+1)]
		}
		if checkAny(t, x, m, d.below(vertices), d.below(vertices)) {
			asked++
		} else {
			refused++
		}
	}
	if asked < 3000 || refused < 3000 {
		t.Errorf("%d asked, %d refused", asked, refused)
	}
}

func TestP9VerticesOutOfBounds(t *testing.T) {
	x := street(t)
	for _, d := range []api.Dfa{steady(t, ".*"), counting(t, "w{0,3}")} {
		for _, v := range []int{-1, -5, 5, 6, 59, 60, 1 << 31, 1 << 32, 1<<32 + 1, -1 << 32, math.MaxInt, math.MinInt} {
			for _, other := range []int{0, 4, v} {
				checkRoute(t, x, d, v, other, -1)
				checkRoute(t, x, d, other, v, -1)
			}
			checkMany(t, x, d, v, []int{0, v, 4}, []int{-1, -1, -1})
			checkMany(t, x, d, v, nil, nil)
			checkMany(t, x, d, 0, []int{1, v, 1}, []int{1, -1, 1}) // beside it, all is as it was
		}
	}
}

func TestP1OfMachinesThatAreNone(t *testing.T) {
	x := street(t)
	for _, d := range []api.Dfa{
		{}, sized(2001), sized(100000), {Next: make([][api.Modes]int, 1)}, {Accept: []bool{true}}, {Next: make([][api.Modes]int, 2), Accept: []bool{true}},
		{Next: make([][api.Modes]int, 1), Accept: []bool{true, true}}, {Next: [][api.Modes]int{{0, 0, 1}}, Accept: []bool{true}}, {Next: [][api.Modes]int{{0, -1}}, Accept: []bool{true}},
	} {
		for from := range 5 {
			checkFrom(t, x, d, from, -1, -1, -1, -1, -1)
		}
	}
}

// roomy is a row with spare room behind it, filled with a sign.
func roomy[T any](row []T, sign T) []T {
	return append(slices.Clone(row), sign, sign, sign)[:len(row)]
}

// whole is a copy of the row and its spare room.
func whole[T any](row []T) []T {
	return slices.Clone(row[:cap(row)])
}

// spoil fills a row and its spare room.
func spoil[T any](row []T, sign T) {
	for i := range row[:cap(row)] {
		row[:cap(row)][i] = sign
	}
}

// roomyIndex is a copy of an index with spare room behind each list.
func roomyIndex(x api.Index) api.Index {
	x.Net.Edges, x.Rank, x.Arcs = roomy(x.Net.Edges, api.Edge{From: 77}), roomy(x.Rank, 78), roomy(x.Arcs, api.Arc{From: 79})
	x.Up, x.Down = roomy(x.Up, []int{82}), roomy(x.Down, []int{83})
	for _, lists := range [][][]int{x.Up, x.Down} {
		for v := range lists {
			lists[v] = roomy(lists[v], 80)
		}
	}
	return x
}

// wholeIndex is a copy of an index, where spare room is not spare.
func wholeIndex(x api.Index) api.Index {
	y := api.Index{Net: api.Net{N: x.Net.N, Edges: whole(x.Net.Edges)}, Rank: whole(x.Rank), Arcs: whole(x.Arcs), Up: whole(x.Up), Down: whole(x.Down)}
	for _, lists := range [][][]int{y.Up, y.Down} {
		for v := range lists {
			lists[v] = whole(lists[v])
		}
	}
	return y
}

func sameIndex(x, y api.Index) bool {
	return x.Net.N == y.Net.N && slices.Equal(x.Net.Edges, y.Net.Edges) && slices.Equal(x.Rank, y.Rank) && slices.Equal(x.Arcs, y.Arcs) &&
		slices.EqualFunc(x.Up, y.Up, slices.Equal) && slices.EqualFunc(x.Down, y.Down, slices.Equal)
}

// spoilIndex fills each list of an index with a sign.
func spoilIndex(x api.Index, sign int) {
	for _, list := range append(slices.Concat(x.Up, x.Down), x.Rank) {
		spoil(list, sign)
	}
	spoil(x.Net.Edges, api.Edge{From: sign, To: sign})
	spoil(x.Arcs, api.Arc{From: sign, To: sign})
}

// anyAsked is an index, mostly one that was built, and a machine, mostly one that is steady.
func (d *dice) anyAsked() (api.Index, api.Dfa) {
	vertices := 1 + d.below(8)
	n := d.anyNet(vertices, d.below(4*vertices))
	x, m := hier.Build(n), d.anySteady(1+d.below(5))
	if d.below(5) == 0 {
		x = d.anyIndex(n)
	}
	if d.below(4) == 0 {
		m = d.anyMachine(1 + d.below(5))
	}
	return x, m
}

func TestP2WhatIsHandedInIsNotChanged(t *testing.T) {
	d := dice(2)
	for i := range 600 {
		x, m := d.anyAsked()
		x = roomyIndex(x)
		if i%10 == 0 { // one that is refused
			x.Rank[0]++
		}
		m.Next, m.Accept = roomy(m.Next, [api.Modes]int{-7}), roomy(m.Accept, true)
		from := d.below(x.Net.N)
		to := roomy([]int{d.below(x.Net.N), d.below(x.Net.N), from, 99, -1}, 84)
		before, next, accept, asked := wholeIndex(x), whole(m.Next), whole(m.Accept), whole(to)
		for _, v := range to {
			r, _ := query.Route(x, m, from, v)
			spoil(r.Edges, -8)
		}
		spoil(query.Many(x, m, from, to), -8)
		spoil(query.Many(x, m, from, to[:0]), -8)
		spoil(query.Many(x, m, -1, to), -8)
		if !sameIndex(wholeIndex(x), before) {
			t.Fatalf("changed: %v, not %v", wholeIndex(x), before)
		}
		if !slices.Equal(whole(m.Next), next) || !slices.Equal(whole(m.Accept), accept) || !slices.Equal(whole(to), asked) {
			t.Fatalf("changed: %v, %v", m, whole(to))
		}
	}
}

// What was told may be changed: what is told anew, and what was told beside it, is as it was; and it is as it was whatever becomes of what was handed in.
func TestP2WhatIsToldIsNew(t *testing.T) {
	d := dice(3)
	for range 400 {
		x, m := d.anyAsked()
		from, v := d.below(x.Net.N), d.below(x.Net.N)
		to := []int{v, from, v}
		one, is := query.Route(x, m, from, v)
		two, _ := query.Route(x, m, from, v)
		costs, beside := query.Many(x, m, from, to), query.Many(x, m, from, to)
		edges, want := slices.Clone(one.Edges), slices.Clone(costs)
		spoil(one.Edges, -8)
		spoil(append(one.Edges, -8), -8)
		spoil(costs, -8)
		again, isAgain := query.Route(x, m, from, v)
		if is != isAgain || two.Cost != again.Cost || !slices.Equal(two.Edges, edges) || !slices.Equal(again.Edges, edges) {
			t.Errorf("Route shares: %v, %v, not %v", two, again, edges)
		}
		if anew := query.Many(x, m, from, to); !slices.Equal(beside, want) || !slices.Equal(anew, want) {
			t.Errorf("Many shares: %v, %v, not %v", beside, anew, want)
		}
		spoilIndex(x, 5)
		spoil(m.Next, [api.Modes]int{5})
		spoil(m.Accept, false)
		spoil(to, 5)
		if !slices.Equal(two.Edges, edges) || !slices.Equal(beside, want) {
			t.Error("what was told shares with what was handed in")
		}
	}
}

// What is told hangs on what the index and the machine are by then.
func TestP2NothingIsKept(t *testing.T) {
	x := bare(network(t, 3, "0 1 w 1", "1 2 w 1", "0 2 w 5"), 0, -1, -1)
	m := steady(t, ".*")
	x.Up[0], x.Up[1] = []int{2, 0}, []int{1}
	checkFrom(t, x, m, 0, 0, 1, 2)
	x.Up[1] = nil
	checkFrom(t, x, m, 0, 0, 1, 5)
	x.Net.Edges[0].Cost, x.Arcs[0].Cost = 9, 9
	checkFrom(t, x, m, 0, 0, 9, 5)
	x.Net.Edges[0].Mode, x.Arcs[0].Mode = 1, 1
	checkFrom(t, x, m, 0, 0, 9, 5)
	m = steady(t, "w*")
	checkFrom(t, x, m, 0, 0, -1, 5)
	m.Accept[0] = false
	checkFrom(t, x, m, 0, -1, -1, -1)
	x.Arcs[2].Cost++
	m.Accept[0] = true
	checkFrom(t, x, m, 0, -1, -1, -1) // it is refused
	x.Net.Edges[2].Cost++
	checkFrom(t, x, m, 0, 0, -1, 6)
}

func TestP3TheSameCallsAnswerTheSame(t *testing.T) {
	d := dice(4)
	for range 400 {
		x, m := d.anyAsked()
		other, same := roomyIndex(x), api.Dfa{Next: slices.Clone(m.Next), Accept: slices.Clone(m.Accept)}
		from, to := d.below(x.Net.N), d.below(x.Net.N)
		one, is := query.Route(x, m, from, to)
		query.Route(street(t), steady(t, ".*"), 0, 3)
		two, isTwo := query.Route(other, same, from, to)
		if is != isTwo || one.Cost != two.Cost || !slices.Equal(one.Edges, two.Edges) {
			t.Errorf("%v, %v in %s", one, two, show(x, m))
		}
		row := []int{to, from, to}
		checkMany(t, other, same, from, row, query.Many(x, m, from, row))
	}
}

// P4: beside a false there is nothing, wherever it comes from.
func TestP4NothingBesideAFalse(t *testing.T) {
	d := dice(5)
	none := 0
	for range 2000 {
		x, m := d.anyAsked()
		from, to := d.below(x.Net.N), d.below(x.Net.N)
		r, is := query.Route(x, m, from, to)
		if is {
			continue
		}
		none++
		if r.Cost != 0 || len(r.Edges) != 0 {
			t.Errorf("%v beside a false", r)
		}
	}
	if none < 300 {
		t.Errorf("only %d", none)
	}
}
