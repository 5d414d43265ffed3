package hier_test

import (
	"fmt"
	"math"
	"slices"
	"testing"

	"milestone/api"
	"milestone/hier"
	"milestone/net"
)

// odd are numbers that bounds are held against.
var odd = []int{-3, -2, -1, 0, 1, 2, 3, 4, 5, 6, 7, 8, 9, 59, 60, 61, 400, 300000, 1<<31 - 1, 1 << 31, 1 << 32, 1 << 42, 1<<42 + 1, -1 << 31, math.MaxInt, math.MaxInt - 1, math.MinInt}

// short is a shortcut of two arcs.
func short(from, to, mode, cost, a, b int) api.Arc {
	return api.Arc{From: from, To: to, Mode: mode, Cost: cost, Edge: -1, A: a, B: b}
}

// town is a hierarchy by hand: 3 went, then 1; 0 and 2 stay.
func town(t *testing.T) api.Index {
	return api.Index{
		Net:  network(t, 4, "0 1 w 2", "1 2 w 3", "2 0 w 1", "0 0 t 4", "2 2 f 5", "1 1 w 7", "3 1 w 6"),
		Rank: []int{-1, 1, -1, 0},
		Arcs: []api.Arc{
			{From: 0, To: 0, Mode: 4, Cost: 4, Edge: 3},
			{From: 0, To: 1, Mode: 0, Cost: 2, Edge: 0},
			{From: 1, To: 1, Mode: 0, Cost: 7, Edge: 5},
			{From: 1, To: 2, Mode: 0, Cost: 3, Edge: 1},
			{From: 2, To: 0, Mode: 0, Cost: 1, Edge: 2},
			{From: 2, To: 2, Mode: 3, Cost: 5, Edge: 4},
			{From: 3, To: 1, Mode: 0, Cost: 6, Edge: 6},
			short(0, 2, 0, 5, 1, 3),
		},
		Up:   [][]int{{0, 7}, {2, 3}, {4, 5}, {6}},
		Down: [][]int{{}, {1}, {}, {}},
	}
}

// checkTown holds Check of the town, with a change, against what is wanted.
func checkTown(t *testing.T, want bool, name string, change func(x *api.Index)) {
	t.Helper()
	x := town(t)
	change(&x)
	if hier.Check(x) != want {
		t.Errorf("%s: not %v", name, want)
	}
}

func TestP1102CheckOfTheTown(t *testing.T) {
	checkTown(t, true, "as it is", func(*api.Index) {})
	checkSame(t, hier.Build(town(t).Net), town(t))
	checkTown(t, true, "with nil for none", func(x *api.Index) { x.Down[0], x.Down[2] = nil, nil })
	checkTown(t, true, "without lists", func(x *api.Index) { x.Up, x.Down = make([][]int, 4), make([][]int, 4) })
	checkTown(t, true, "without arcs", func(x *api.Index) { x.Up, x.Down, x.Arcs = make([][]int, 4), make([][]int, 4), nil })
	if hier.Check(api.Index{}) {
		t.Error("of nothing")
	}
	if !hier.Check(api.Index{Net: api.Net{N: 1}, Rank: []int{0}, Up: make([][]int, 1), Down: make([][]int, 1)}) {
		t.Error("of one vertex")
	}
}

// The network is at fault where no arc tells of it.
func TestP1102CheckNet(t *testing.T) {
	for _, e := range []api.Edge{
		{From: 4}, {From: -1}, {To: 4}, {To: -1}, {Mode: 5}, {Mode: -1}, {Cost: -1}, {Cost: api.MaxCost + 1}, {Cost: math.MaxInt}, {From: math.MinInt},
	} {
		checkTown(t, false, fmt.Sprint(e), func(x *api.Index) { x.Net.Edges = append(x.Net.Edges, e) })
	}
	checkTown(t, true, "one more edge", func(x *api.Index) { x.Net.Edges = append(x.Net.Edges, api.Edge{From: 3, Mode: 4, Cost: api.MaxCost}) })
	for many, want := range map[int]bool{api.MaxEdges: true, api.MaxEdges + 1: false} {
		checkTown(t, want, fmt.Sprint(many, " edges"), func(x *api.Index) {
			x.Net.Edges = append(x.Net.Edges, make([]api.Edge, many-len(x.Net.Edges))...)
		})
	}
	for vertices, want := range map[int]bool{0: false, 1: true, 59: true, 60: true, 61: false, 1000: false} {
		x := api.Index{Net: api.Net{N: vertices}, Rank: slices.Repeat([]int{-1}, vertices), Up: make([][]int, vertices), Down: make([][]int, vertices)}
		if hier.Check(x) != want {
			t.Errorf("%d vertices: not %v", vertices, want)
		}
	}
	for _, vertices := range odd {
		if vertices != 4 {
			checkTown(t, false, fmt.Sprint("N ", vertices), func(x *api.Index) { x.Net.N = vertices })
		}
	}
}

// As many as vertices: one more, one fewer, none at all, of each by itself. What is missing, or too much, says nothing.
func TestP1102CheckCounts(t *testing.T) {
	checkTown(t, false, "Rank fewer", func(x *api.Index) { x.Up[3], x.Rank = nil, []int{-1, 0, -1} })
	checkTown(t, false, "Rank more", func(x *api.Index) { x.Rank = append(x.Rank, -1) })
	checkTown(t, false, "Rank one more that is next", func(x *api.Index) { x.Rank = append(x.Rank, 2) })
	checkTown(t, false, "no Rank", func(x *api.Index) { x.Rank = nil })
	checkTown(t, false, "Up fewer", func(x *api.Index) { x.Up = x.Up[:3] })
	checkTown(t, false, "Up more", func(x *api.Index) { x.Up = append(x.Up, nil) })
	checkTown(t, false, "no Up", func(x *api.Index) { x.Up = nil })
	checkTown(t, false, "Down fewer", func(x *api.Index) { x.Down = x.Down[:3] })
	checkTown(t, false, "Down more", func(x *api.Index) { x.Down = append(x.Down, nil) })
	checkTown(t, false, "no Down", func(x *api.Index) { x.Down = nil })
	checkTown(t, false, "all more", func(x *api.Index) {
		x.Rank, x.Up, x.Down = append(x.Rank, -1), append(x.Up, nil), append(x.Down, nil)
	})
}

func TestP1102CheckRanks(t *testing.T) {
	bare := func(rank ...int) api.Index {
		vertices := len(rank)
		return api.Index{Net: api.Net{N: vertices}, Rank: rank, Up: make([][]int, vertices), Down: make([][]int, vertices)}
	}
	for _, rank := range [][]int{
		{-1}, {0}, {-1, -1, -1, -1}, {0, 1, 2, 3}, {3, 2, 1, 0}, {2, 0, 3, 1}, {-1, 0, -1, -1}, {1, -1, 0, -1}, {-1, 2, 1, 0}, {0, -1, 1},
	} {
		if !hier.Check(bare(rank...)) {
			t.Errorf("%v is refused", rank)
		}
	}
	for _, rank := range [][]int{
		{1}, {-2}, {2}, {0, 0}, {1, 1}, {-1, 1}, {0, 2}, {0, -2}, {1, 2, 3, 4}, {0, 1, 2, 4}, {0, 1, 3, 3}, {0, 1, 1, 2}, {0, 0, 1, 2},
		{0, 1, 2, 2}, {-1, 0, 0, -1}, {-1, 2, 0, -1}, {-1, 0, 1, -2}, {0, 1, 2, 59}, {-1, -1, -1, 60}, {0, 1, 3, -1}, {-1, -1, 0, -3},
	} {
		if hier.Check(bare(rank...)) {
			t.Errorf("%v is allowed", rank)
		}
	}
	for at := range 4 {
		for _, other := range odd {
			rank := []int{1, -1, 0, 2}
			right := rank[at] == other || at == 1 && other == 3 || at == 3 && other == -1
			rank[at] = other
			if hier.Check(bare(rank...)) != right {
				t.Errorf("%v: not %v", rank, right)
			}
		}
	}
}

// The order need not be that of package order, if the lists fit.
func TestP1102CheckOfAnotherOrder(t *testing.T) {
	checkTown(t, false, "1 ahead of 3", func(x *api.Index) { x.Rank[1], x.Rank[3] = 0, 1 })
	checkTown(t, true, "1 ahead of 3, with lists", func(x *api.Index) {
		x.Rank[1], x.Rank[3] = 0, 1
		x.Down[1], x.Up[3] = []int{1, 6}, nil
	})
	checkTown(t, false, "0 goes, too", func(x *api.Index) { x.Rank[0] = 2 })
	checkTown(t, true, "0 goes, too, with lists", func(x *api.Index) {
		x.Rank[0] = 2
		x.Up[2], x.Down[0] = []int{5}, []int{4}
		x.Up[1], x.Down[1] = []int{3}, []int{1}
	})
	checkTown(t, false, "none goes", func(x *api.Index) { x.Rank = []int{-1, -1, -1, -1} })
	checkTown(t, true, "none goes, with lists", func(x *api.Index) {
		x.Rank = []int{-1, -1, -1, -1}
		x.Up, x.Down[1] = [][]int{{0, 1, 7}, {3, 2}, {4, 5}, {6}}, nil
	})
}

// checkMore holds Check of the town with more arcs, which no list has.
func checkMore(t *testing.T, want bool, more ...api.Arc) {
	t.Helper()
	checkTown(t, want, fmt.Sprint(more), func(x *api.Index) { x.Arcs = append(x.Arcs, more...) })
}

// fields are the fields of an arc, one by one.
func fields(a *api.Arc) []*int {
	return []*int{&a.From, &a.To, &a.Mode, &a.Cost, &a.Edge, &a.A, &a.B}
}

// Each field by each other number: no arc is right by chance.
func TestP1102CheckArcsFieldByField(t *testing.T) {
	for _, right := range append(town(t).Arcs, short(0, 1, 0, 9, 1, 2), short(1, 0, 0, 4, 3, 4), short(0, 0, 0, 6, 7, 4), short(0, 0, 4, 8, 0, 0)) {
		checkMore(t, true, right)
		for i := range fields(&right) {
			for _, number := range odd {
				wrong := right
				if field := fields(&wrong)[i]; *field != number {
					*field = number
					checkMore(t, false, wrong)
				}
			}
		}
	}
}

// An arc may be there twice, of an edge that costs more than others, of one that no list has.
func TestP1102CheckArcsOfEdges(t *testing.T) {
	more := []api.Edge{{From: 0, To: 1, Mode: 0, Cost: 2}, {From: 0, To: 1, Mode: 0, Cost: api.MaxCost}, {From: 0, To: 1, Mode: 1, Cost: 2}, {From: 3, To: 0, Mode: 2}}
	right := []api.Arc{{From: 0, To: 1, Cost: 2, Edge: 7}, {From: 0, To: 1, Cost: api.MaxCost, Edge: 8}, {From: 0, To: 1, Mode: 1, Cost: 2, Edge: 9}, {From: 3, Mode: 2, Edge: 10}}
	with := func(arcs ...api.Arc) bool {
		x := town(t)
		x.Net.Edges, x.Arcs = append(x.Net.Edges, more...), append(x.Arcs, arcs...)
		return hier.Check(x)
	}
	if !with(right...) || !with(append(right, right...)...) {
		t.Error("arcs of edges are refused")
	}
	for i, a := range right {
		for _, edge := range odd {
			same := edge == a.Edge || i == 0 && edge == 0 // edges 0 and 7 are alike
			wrong := a
			wrong.Edge = edge
			if with(wrong) != same {
				t.Errorf("%v: not %v", wrong, same)
			}
		}
	}
	if with(api.Arc{From: 3, Mode: 2, Edge: 11}) || with(api.Arc{From: 3, Mode: 2, Edge: 9}) {
		t.Error("of no edge, or another one")
	}
}

func TestP1102CheckShortcuts(t *testing.T) {
	checkMore(t, true, short(0, 1, 0, 9, 1, 2), short(0, 2, 0, 12, 8, 3), short(0, 0, 0, 13, 9, 4), short(0, 0, 0, 26, 10, 10))
	checkMore(t, true, short(0, 2, 0, 5, 1, 3), short(0, 2, 0, 5, 1, 3))
	for _, wrong := range []api.Arc{
		short(1, 1, 0, 5, 3, 1),                                                   // 1 2, then 0 1: all is right, but that they do not meet
		short(3, 2, 0, 11, 6, 7),                                                  // 3 1, then 0 2
		short(0, 2, 0, 10, 7, 7),                                                  // 0 2, then 0 2
		short(2, 1, 0, 8, 4, 2),                                                   // 2 0, then 1 1
		short(0, 1, 0, 7, 7, 1),                                                   // 0 2, then 0 1
		short(0, 1, 4, 6, 0, 1), short(0, 1, 0, 6, 0, 1), short(0, 1, 1, 6, 0, 1), // t, then w
		short(1, 2, 0, 8, 3, 5), short(1, 2, 3, 8, 3, 5), short(1, 2, 2, 8, 3, 5), // w, then f
		short(0, 2, 0, 4, 1, 3), short(0, 2, 0, 6, 1, 3), short(0, 2, 0, 2, 1, 3), short(0, 2, 0, 3, 1, 3), short(0, 2, 0, 0, 1, 3), short(0, 2, 0, -5, 1, 3), // 2 and 3
		short(0, 1, 0, 5, 1, 3), short(1, 2, 0, 5, 1, 3), short(2, 2, 0, 5, 1, 3), short(0, 0, 0, 5, 1, 3), short(2, 0, 0, 5, 1, 3),
		{From: 0, To: 2, Mode: 0, Cost: 5, Edge: -2, A: 1, B: 3}, {From: 0, To: 2, Mode: 0, Cost: 5, Edge: 0, A: 1, B: 3}, {From: 0, To: 1, Mode: 0, Cost: 2, Edge: 0, A: 1, B: 3},
		{From: 0, To: 1, Mode: 0, Cost: 2, Edge: 0, B: 1}, {From: 0, To: 1, Mode: 0, Cost: 2, Edge: 0, A: 1}, {From: 0, To: 1, Mode: 0, Cost: 2, Edge: -1}, {Edge: -1},
	} {
		checkMore(t, false, wrong)
	}
}

// round is an index of one vertex with a loop at this cost, and these arcs behind it.
func round(cost int, arcs ...api.Arc) api.Index {
	x := api.Index{Net: api.Net{N: 1, Edges: []api.Edge{{Cost: cost}}}, Rank: []int{0}, Up: make([][]int, 1), Down: make([][]int, 1)}
	x.Arcs = append([]api.Arc{{Cost: cost}}, arcs...)
	return x
}

// Of cost 0 all parts fit, so that only their numbers can be at fault.
func TestP1102CheckPartsAreLower(t *testing.T) {
	for _, a := range []int{-1, 0, 1, 2, 3, 4, math.MaxInt, math.MinInt} {
		for _, b := range []int{-1, 0, 1, 2, 3, 4, math.MaxInt, math.MinInt} {
			x := round(0, short(0, 0, 0, 0, 0, 0), short(0, 0, 0, 0, a, b), short(0, 0, 0, 0, 0, 0))
			if want := a >= 0 && a < 2 && b >= 0 && b < 2; hier.Check(x) != want {
				t.Errorf("%d, %d: not %v", a, b, want)
			}
		}
	}
	if hier.Check(round(0, short(0, 0, 0, 0, 2, 2), short(0, 0, 0, 0, 1, 1))) {
		t.Error("of each other")
	}
}

// row is a round whose arc i stands for i + 1 edges: the one before it and the first one, or the first one and it.
func row(cost, length int, turned bool) api.Index {
	x := round(cost)
	for i := 1; i < length; i++ {
		a, b := i-1, 0
		if turned {
			a, b = b, a
		}
		x.Arcs = append(x.Arcs, short(0, 0, 0, cost*(i+1), a, b))
	}
	return x
}

func TestP1102CheckOfHowManyEdges(t *testing.T) {
	for _, cost := range []int{0, 1, api.MaxCost} { // 1000 of the greatest cost less than 2^42
		for _, turned := range []bool{false, true} {
			for length, want := range map[int]bool{2: true, 999: true, 1000: true, 1001: false, 1002: false, 5000: false} {
				if hier.Check(row(cost, length, turned)) != want {
					t.Errorf("%d edges of cost %d: not %v", length, cost, want)
				}
			}
			for a := 498; a <= 500; a++ { // a + 1 and 501 edges
				x := row(cost, 501, turned)
				x.Arcs = append(x.Arcs, short(0, 0, 0, cost*(a+502), a, 500))
				if want := a+502 <= 1000; hier.Check(x) != want {
					t.Errorf("%d edges: not %v", a+502, want)
				}
			}
		}
	}
}

// Sums that wrap round, or that no number is for, are never made.
func TestP1102CheckOfVeryManyEdges(t *testing.T) {
	for _, cost := range []int{0, 1, api.MaxCost} {
		x := round(cost)
		for i := range 300 {
			x.Arcs = append(x.Arcs, short(0, 0, 0, 2*x.Arcs[i].Cost, i, i))
			if want := i < 9; hier.Check(x) != want {
				t.Errorf("2 times itself, %d times: not %v", i+1, want)
			}
		}
	}
}

func TestP1102CheckHowManyArcs(t *testing.T) {
	x := round(7)
	x.Arcs = slices.Repeat(x.Arcs, 300000)
	for i := 1; i < len(x.Arcs); i += 3 {
		x.Arcs[i] = short(0, 0, 0, 14, i-1, i-1)
	}
	x.Up[0] = make([]int, len(x.Arcs))
	for i := range x.Up[0] {
		x.Up[0][i] = len(x.Arcs) - 1 - i
	}
	if !hier.Check(x) {
		t.Error("300000 arcs are refused")
	}
	x.Up[0][0] = 0
	if hier.Check(x) {
		t.Error("the first and the last one of a long list are the same")
	}
	x.Up[0] = nil
	x.Arcs = append(x.Arcs, x.Arcs[0])
	if hier.Check(x) {
		t.Error("300001 arcs are allowed")
	}
}

func TestP1102CheckUp(t *testing.T) {
	up := func(want bool, v int, numbers ...int) {
		t.Helper()
		checkTown(t, want, fmt.Sprint("Up of ", v, ": ", numbers), func(x *api.Index) {
			x.Arcs = append(x.Arcs, short(3, 2, 0, 9, 6, 3), short(3, 1, 0, 13, 6, 2), short(2, 1, 0, 3, 4, 1), x.Arcs[0])
			x.Net.Edges = append(x.Net.Edges, api.Edge{From: 1, To: 3}, api.Edge{From: 3, To: 3}, api.Edge{From: 0, To: 3})
			x.Arcs = append(x.Arcs, api.Arc{From: 1, To: 3, Edge: 7}, api.Arc{From: 3, To: 3, Edge: 8}, api.Arc{From: 0, To: 3, Edge: 9})
			x.Up[v] = numbers
		})
	}
	// In any order, some alone, an arc that is like another one.
	up(true, 0, 7, 0)
	up(true, 0, 7)
	up(true, 0, 0)
	up(true, 0)
	up(true, 0, 11, 7, 0)
	up(true, 1, 3, 2)
	// To itself, to one that stays, to one of greater rank.
	up(true, 1, 2)
	up(true, 1, 3)
	up(true, 3, 6)
	up(true, 3, 13, 8, 9, 6)
	// To one of lower rank; of one that stays, to one that went.
	up(false, 1, 12)
	up(false, 1, 2, 3, 12)
	up(false, 0, 1)
	up(false, 0, 0, 7, 1)
	up(false, 0, 14)
	up(false, 2, 10)
	up(true, 2, 5, 4)
	// Twice.
	up(false, 0, 0, 0)
	up(false, 0, 0, 7, 0)
	up(false, 3, 6, 8, 9, 6)
	up(false, 1, slices.Repeat([]int{2}, 20)...)
	// From others.
	for v := range 4 {
		for i, a := range town(t).Arcs {
			if a.From != v {
				up(false, v, i)
				up(false, v, append(slices.Clone(town(t).Up[v]), i)...)
			}
		}
		for _, none := range []int{-1, -2, 15, 16, 300000, 1 << 32, math.MaxInt, math.MinInt} {
			up(false, v, none)
			up(false, v, append(slices.Clone(town(t).Up[v]), none)...)
		}
	}
}

func TestP1102CheckDown(t *testing.T) {
	down := func(want bool, v int, numbers ...int) {
		t.Helper()
		checkTown(t, want, fmt.Sprint("Down of ", v, ": ", numbers), func(x *api.Index) {
			x.Arcs = append(x.Arcs, short(2, 1, 0, 3, 4, 1), x.Arcs[1])
			x.Net.Edges = append(x.Net.Edges, api.Edge{From: 1, To: 3}, api.Edge{From: 3, To: 3}, api.Edge{From: 2, To: 3}, api.Edge{From: 3, To: 0})
			x.Arcs = append(x.Arcs, api.Arc{From: 1, To: 3, Edge: 7}, api.Arc{From: 3, To: 3, Edge: 8}, api.Arc{From: 2, To: 3, Edge: 9}, api.Arc{From: 3, To: 0, Edge: 10})
			x.Down[v] = numbers
		})
	}
	// In any order, some alone, none, an arc that is like another one.
	down(true, 1)
	down(true, 1, 1)
	down(true, 1, 8, 1)
	down(true, 1, 1, 8)
	down(true, 1, 9, 1)
	// From one that stays, from one of greater rank.
	down(true, 3, 12)
	down(true, 3, 10)
	down(true, 3, 10, 12)
	// From itself, from one of lower rank.
	down(false, 1, 2)
	down(false, 1, 1, 2)
	down(false, 3, 11)
	down(false, 3, 10, 11, 12)
	down(false, 1, 6)
	down(false, 1, 1, 8, 6)
	// Twice.
	down(false, 1, 1, 1)
	down(false, 1, 1, 8, 1)
	down(false, 3, 10, 12, 12)
	down(false, 3, slices.Repeat([]int{10}, 20)...)
	// Of one that stays there are none: from itself, from one that stays, from one that went.
	down(false, 0, 0)
	down(false, 0, 4)
	down(false, 0, 13)
	down(false, 2, 5)
	down(false, 2, 7)
	down(false, 2, 3)
	down(true, 0)
	down(true, 2)
	// To others.
	for v := range 4 {
		for i, a := range town(t).Arcs {
			if a.To != v {
				down(false, v, i)
				down(false, v, append(slices.Clone(town(t).Down[v]), i)...)
			}
		}
		for _, none := range []int{-1, -2, 14, 15, 300000, 1 << 32, math.MaxInt, math.MinInt} {
			down(false, v, none)
			down(false, v, append(slices.Clone(town(t).Down[v]), none)...)
		}
	}
}

// right tells what Check tells, condition by condition, as the chapter has them.
func right(x api.Index) bool {
	n := x.Net.N
	if !net.Check(x.Net) || len(x.Rank) != n || len(x.Up) != n || len(x.Down) != n || len(x.Arcs) > 300000 {
		return false
	}
	ranked := 0
	for _, rank := range x.Rank {
		if rank != -1 {
			ranked++
		}
	}
	for rank := range ranked {
		if !slices.Contains(x.Rank, rank) {
			return false
		}
	}
	stands := make([]int, len(x.Arcs))
	for i, a := range x.Arcs {
		if stands[i] = rightArc(x, stands, i); stands[i] == 0 || stands[i] > 1000 || a.Cost < 0 || a.Cost > 1<<42 {
			return false
		}
	}
	for v, rank := range x.Rank {
		if !rightLists(x, v, rank) {
			return false
		}
	}
	return true
}

// rightArc tells how many edges arc i stands for, 0 if it is none.
func rightArc(x api.Index, stands []int, i int) int {
	a := x.Arcs[i]
	if a.Edge >= 0 && a.Edge < len(x.Net.Edges) {
		e := x.Net.Edges[a.Edge]
		if a.From == e.From && a.To == e.To && a.Mode == e.Mode && a.Cost == e.Cost && a.A == 0 && a.B == 0 {
			return 1
		}
		return 0
	}
	if a.Edge != -1 || a.A < 0 || a.A >= i || a.B < 0 || a.B >= i {
		return 0
	}
	one, two := x.Arcs[a.A], x.Arcs[a.B]
	if one.Mode != a.Mode || two.Mode != a.Mode || one.From != a.From || one.To != two.From || two.To != a.To || one.Cost+two.Cost != a.Cost {
		return 0
	}
	return stands[a.A] + stands[a.B]
}

func rightLists(x api.Index, v, rank int) bool {
	seen := make(map[int]int)
	for _, i := range x.Up[v] {
		if seen[i]++; i < 0 || i >= len(x.Arcs) || x.Arcs[i].From != v || seen[i] > 1 {
			return false
		}
		to := x.Arcs[i].To
		if stays := x.Rank[to] == -1; !stays && (rank == -1 || to != v && x.Rank[to] < rank) {
			return false
		}
	}
	clear(seen)
	for _, i := range x.Down[v] {
		if seen[i]++; i < 0 || i >= len(x.Arcs) || x.Arcs[i].To != v || seen[i] > 1 || rank == -1 {
			return false
		}
		if from := x.Arcs[i].From; x.Rank[from] != -1 && x.Rank[from] <= rank {
			return false
		}
	}
	return true
}

// places are all numbers of an index.
func places(x *api.Index) []*int {
	places := []*int{&x.Net.N}
	for i := range x.Net.Edges {
		e := &x.Net.Edges[i]
		places = append(places, &e.From, &e.To, &e.Mode, &e.Cost)
	}
	for i := range x.Rank {
		places = append(places, &x.Rank[i])
	}
	for i := range x.Arcs {
		places = append(places, fields(&x.Arcs[i])...)
	}
	for _, lists := range [][][]int{x.Up, x.Down} {
		for _, list := range lists {
			for i := range list {
				places = append(places, &list[i])
			}
		}
	}
	return places
}

// tally counts how often Check allowed and refused.
type tally struct{ allowed, refused int }

// check holds Check against the conditions.
func (y *tally) check(t *testing.T, x api.Index) {
	t.Helper()
	want := right(x)
	if hier.Check(x) != want {
		t.Fatalf("%v: not %v", x, want)
	}
	if want {
		y.allowed++
	} else {
		y.refused++
	}
}

// enough tells of a tally that says too little of one side.
func (y *tally) enough(t *testing.T) {
	t.Helper()
	if y.allowed < 1000 || y.refused < 1000 {
		t.Errorf("%d allowed, %d refused", y.allowed, y.refused)
	}
}

// Each number of what was built, changed: Check tells what the conditions tell.
func TestP1102CheckOfEachNumberChanged(t *testing.T) {
	d := dice(11021)
	var tallied tally
	for range 60 {
		x := hier.Build(d.anyNet(1+d.below(7), d.below(16)))
		for _, place := range places(&x) {
			was := *place
			for _, number := range append(odd, was-1, was+1, was) {
				*place = number
				tallied.check(t, x)
			}
			*place = was
		}
	}
	tallied.enough(t)
}

// Several at a time, lists that are longer and shorter.
func TestP1102CheckOfSeveralChanged(t *testing.T) {
	d := dice(11022)
	var tallied tally
	for range 20000 {
		x := hier.Build(d.anyNet(1+d.below(6), d.below(14)))
		for range 1 + d.below(3) {
			all := places(&x)
			lists := [][][]int{x.Up, x.Down}[d.below(2)]
			v := d.below(len(lists))
			switch d.below(4) {
			case 0:
				*all[d.below(len(all))] = odd[d.below(len(odd))]
			case 1:
				*all[d.below(len(all))] += d.below(3) - 1
			case 2:
				lists[v] = append(lists[v], d.below(len(x.Arcs)+1))
			case 3:
				lists[v] = lists[v][:len(lists[v])/2]
			}
		}
		tallied.check(t, x)
	}
	tallied.enough(t)
}
