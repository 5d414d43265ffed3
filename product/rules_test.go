package product_test

import (
	"math"
	"slices"
	"testing"

	"milestone/api"
	"milestone/dfa"
	"milestone/mini"
	"milestone/net"
	"milestone/nfa"
	"milestone/product"
	"milestone/regex"
)

// odd are numbers that bounds are held against.
var odd = []int{-1, 0, 1, 2, 3, 4, 5, 59, 60, 61, 2000, 1 << 31, 1<<31 - 1, 1 << 32, -1 << 31, math.MaxInt, math.MinInt}

func (d *dice) anyNumber() int {
	if d.below(6) == 0 {
		return odd[d.below(len(odd))]
	}
	return d.below(3)
}

// anyOddNet is a network, or nearly one.
func (d *dice) anyOddNet() api.Net {
	n := api.Net{N: d.anyNumber()}
	for range d.below(4) {
		n.Edges = append(n.Edges, api.Edge{From: d.anyNumber(), To: d.anyNumber(), Mode: d.anyNumber(), Cost: d.anyNumber()})
	}
	return n
}

// anyOddMachine is a machine, or nearly one.
func (d *dice) anyOddMachine() api.Dfa {
	m := d.anyMachine(1 + d.below(3))
	if d.below(3) == 0 {
		m.Next[d.below(len(m.Next))][d.below(api.Modes)] = d.anyNumber()
	}
	if d.below(4) == 0 {
		m.Accept = make([]bool, d.below(5))
	}
	return m
}

func isNone(r api.Route, is bool) bool {
	return !is && r.Cost == 0 && len(r.Edges) == 0
}

// refuses tells whether each face answers zero values; of a network or machine that is none P8 asks for no more than that each call ends.
func refuses(n api.Net, d api.Dfa, from, to int) bool {
	r, is := product.Route(n, d, from, to)
	both, isBoth := product.Both(n, d, from, to)
	return isNone(r, is) && both == 0 && !isBoth
}

func TestP1OfWhatMayNotBeHandedIn(t *testing.T) {
	d := dice(1)
	fits := 0
	for range 30000 {
		n, m, from, to := d.anyOddNet(), d.anyOddMachine(), d.anyNumber(), d.anyNumber()
		may := net.Check(n) && dfa.Check(m)
		mayFrom, mayTo := may && from >= 0 && from < n.N, may && to >= 0 && to < n.N
		if refused := refuses(n, m, from, to); !refused && !(mayFrom && mayTo) {
			t.Errorf("%v, %v, %d to %d is not refused", n, m, from, to)
		}
		if costs := product.Costs(n, m, from); (len(costs) > 0) != mayFrom {
			t.Errorf("%v, %v, from %d: %v", n, m, from, costs)
		}
		if mayFrom && mayTo {
			fits++
			checkFrom(t, n, m, from, plainly(n, m, from)...)
		}
	}
	if fits < 1000 {
		t.Errorf("only %d fit", fits)
	}
}

func TestP9VerticesOutOfBounds(t *testing.T) {
	n, m := ring(4, 0, 1), compiled(t, ".*")
	for _, v := range []int{-1, -4, 4, 5, 60, 1 << 31, 1 << 32, 1<<32 + 1, -1 << 32, math.MaxInt, math.MinInt} {
		for _, other := range []int{0, 3, v} {
			if !refuses(n, m, v, other) || !refuses(n, m, other, v) || len(product.Costs(n, m, v)) > 0 {
				t.Errorf("%d is not refused", v)
			}
		}
	}
}

func TestP1OfTooMuch(t *testing.T) {
	right, any := ring(4, 0, 1), round(1, 0)
	many := ring(4, 0, 1)
	many.Edges = slices.Repeat(many.Edges, 101)
	for _, n := range []api.Net{{}, {N: -1}, {N: 61}, {N: math.MaxInt}, {N: math.MinInt}, many, {N: 1, Edges: right.Edges}, {N: 4, Edges: []api.Edge{{Cost: -1}}}, {N: 4, Edges: []api.Edge{{Cost: api.MaxCost + 1}}}, {N: 4, Edges: []api.Edge{{Mode: 5}}}} {
		if !refuses(n, any, 0, 0) || len(product.Costs(n, any, 0)) > 0 {
			t.Errorf("%v is not refused", n)
		}
	}
	for _, d := range []api.Dfa{{}, round(2001, 0), round(5000), {Next: make([][api.Modes]int, 1)}, {Accept: []bool{true}}, {Next: [][api.Modes]int{{0, 0, 1}}, Accept: []bool{true}}, {Next: [][api.Modes]int{{0, -1}}, Accept: []bool{true}}} {
		if !refuses(right, d, 0, 0) || len(product.Costs(right, d, 0)) > 0 {
			t.Errorf("%v is not refused", d)
		}
	}
}

func TestP2WhatIsHandedInIsNotChanged(t *testing.T) {
	d := dice(2)
	for range 300 {
		n, m := d.anyNet(1+d.below(6), d.below(15), 3), d.anyMachine(1+d.below(6))
		n.Edges = withRoom(n.Edges, api.Edge{From: -7})
		m.Next, m.Accept = withRoom(m.Next, [api.Modes]int{-7}), withRoom(m.Accept, true)
		edges, next, accept := whole(n.Edges), whole(m.Next), whole(m.Accept)
		from, to := d.below(n.N), d.below(n.N)
		r, _ := product.Route(n, m, from, to)
		spoil(r.Edges, -8)
		spoil(product.Costs(n, m, from), -8)
		product.Both(n, m, from, to)
		if !slices.Equal(whole(n.Edges), edges) || !slices.Equal(whole(m.Next), next) || !slices.Equal(whole(m.Accept), accept) {
			t.Fatalf("changed: %s", show(n, m))
		}
	}
}

// What was told may be changed: what is told anew, and what was told beside it, is as it was.
func TestP2WhatIsToldIsNew(t *testing.T) {
	d := dice(3)
	for range 200 {
		n, m := d.anyNet(1+d.below(6), 5+d.below(15), 3), d.anyMachine(1+d.below(4))
		from, to := d.below(n.N), d.below(n.N)
		one, is := product.Route(n, m, from, to)
		two, _ := product.Route(n, m, from, to)
		costs, same := product.Costs(n, m, from), product.Costs(n, m, from)
		edges, want := slices.Clone(one.Edges), slices.Clone(costs)
		spoil(one.Edges, -8)
		spoil(costs, -8)
		again, isAgain := product.Route(n, m, from, to)
		if is != isAgain || !slices.Equal(two.Edges, edges) || !slices.Equal(again.Edges, edges) || two.Cost != again.Cost {
			t.Errorf("Route shares: %v, %v, not %v", two, again, edges)
		}
		if !slices.Equal(same, want) || !slices.Equal(product.Costs(n, m, from), want) {
			t.Errorf("Costs shares: %v, not %v", same, want)
		}
		spoil(n.Edges, api.Edge{From: -7})
		spoil(m.Accept, false)
		if !slices.Equal(again.Edges, edges) || !slices.Equal(same, want) {
			t.Errorf("what was told shares with what was handed in")
		}
	}
}

// What is told hangs on what the network and the machine are by then.
func TestP2NothingIsKept(t *testing.T) {
	n, m := ring(3, 0, 5), round(2, 0)
	checkFrom(t, n, m, 0, 0, 20, 10)
	n.Edges[1].Cost = 1
	checkFrom(t, n, m, 0, 0, 16, 6)
	n.Edges[2].To = 1
	checkFrom(t, n, m, 0, 0, -1, 6)
	n.Edges[0].Mode = 4
	checkFrom(t, n, m, 0, 0, -1, 6)
	m.Next[0][4] = 0
	checkFrom(t, n, m, 0, 0, 5, -1)
	m.Accept[0], m.Accept[1] = false, true
	checkFrom(t, n, m, 0, -1, -1, 6)
}

func TestP3TheSameCallsAnswerTheSame(t *testing.T) {
	d := dice(4)
	for range 300 {
		n, m := d.anyNet(1+d.below(6), d.below(25), 2), d.anyMachine(1+d.below(4))
		from, to := d.below(n.N), d.below(n.N)
		one, is := product.Route(n, m, from, to)
		other := api.Net{N: n.N, Edges: slices.Clone(n.Edges)}
		two, isTwo := product.Route(other, api.Dfa{Next: slices.Clone(m.Next), Accept: slices.Clone(m.Accept)}, from, to)
		if is != isTwo || one.Cost != two.Cost || !slices.Equal(one.Edges, two.Edges) {
			t.Errorf("%v, %v in %s", one, two, show(n, m))
		}
	}
}

// checkSameCosts holds the costs by one machine against those by another of the same language.
func checkSameCosts(t *testing.T, n api.Net, one, two api.Dfa) {
	t.Helper()
	for from := range n.N {
		checkFrom(t, n, one, from, product.Costs(n, two, from)...)
	}
}

func TestP901ByTheLeastMachineTheSame(t *testing.T) {
	d := dice(9016)
	for range 150 {
		n, m := d.anyNet(1+d.below(7), d.below(20), 1+d.below(5)), d.anyMachine(1+d.below(6))
		larger := d.several(m, len(m.Next)+d.below(20))
		if !dfa.Check(larger) {
			t.Fatalf("no machine: %v", larger)
		}
		checkSameCosts(t, n, mini.Minimize(m), m)
		checkSameCosts(t, n, larger, m)
		checkSameCosts(t, n, larger, mini.Minimize(larger))
	}
	m := compiled(t, "[wb]*t?[wb]*c*")
	checkSameCosts(t, d.anyNet(10, 60, 5), d.several(m, 2000), m)
}

// subsets is the machine of an expression, not made least.
func subsets(t *testing.T, text string) api.Dfa {
	t.Helper()
	n, _, e := regex.Parse(text)
	many, f := nfa.Build(n)
	d, g := dfa.Subsets(many, 2000)
	if e != api.OK || f != api.OK || g != api.OK {
		t.Fatalf("%s: %v, %v, %v", text, e, f, g)
	}
	return d
}

func TestP901ByExpressionsOfOneLanguageTheSame(t *testing.T) {
	d := dice(9017)
	for _, text := range texts() {
		checkSameCosts(t, d.anyNet(8, 30, 5), subsets(t, text), compiled(t, text))
	}
	for _, pair := range [][2]string{{"ww*", "w+"}, {"(w|b)*", "[wb]*"}, {"_|w", "w?"}, {"w{2,4}", "www?w?"}, {"(w*b*)*", "[wb]*"}, {"w(bw)*", "(wb)*w"}, {"0*", "_"}, {"0w|b", "b"}} {
		for range 5 {
			checkSameCosts(t, d.anyNet(8, 30, 3), subsets(t, pair[0]), compiled(t, pair[1]))
		}
	}
}

// less is of two costs the lesser one, -1 being none.
func less(a, b int) int {
	if a < 0 || b >= 0 && b < a {
		return b
	}
	return a
}

// By one of two languages all costs what it costs less by either.
func TestP901ByOneOfTwoLanguages(t *testing.T) {
	d := dice(9018)
	for range 150 {
		one, two := texts()[d.below(len(texts()))], texts()[d.below(len(texts()))]
		n := d.anyNet(1+d.below(8), d.below(25), 1+d.below(5))
		for from := range n.N {
			want := product.Costs(n, compiled(t, one), from)
			for to, cost := range product.Costs(n, compiled(t, two), from) {
				want[to] = less(want[to], cost)
			}
			checkFrom(t, n, compiled(t, one+"|"+two), from, want...)
		}
	}
}

func TestP901ByMoreEdgesNothingCostsMore(t *testing.T) {
	d := dice(9019)
	for range 40 {
		n, m := api.Net{N: 1 + d.below(7)}, d.anyMachine(1+d.below(5))
		before := make([][]int, n.N)
		for from := range n.N {
			before[from] = product.Costs(n, m, from)
		}
		for range 25 {
			n.Edges = append(n.Edges, d.anyEdge(n.N, 5))
			for from := range n.N {
				costs := product.Costs(n, m, from)
				for to, cost := range costs {
					if less(before[from][to], cost) != cost {
						t.Errorf("%d to %d: %d, but %d before, in %s", from, to, cost, before[from][to], show(n, m))
					}
				}
				checkFrom(t, n, m, from, costs...)
				before[from] = costs
			}
		}
	}
}

// A network that is told as a text and read again has the same routes.
func TestP901OfANetworkReadAgain(t *testing.T) {
	d := dice(9020)
	for range 50 {
		n, m := d.anyNet(1+d.below(7), d.below(25), 5), d.anyMachine(1+d.below(5))
		read, _, e := net.Parse(net.Text(n))
		if e != api.OK {
			t.Fatal(net.Text(n))
		}
		for from := range n.N {
			checkFrom(t, read, m, from, product.Costs(n, m, from)...)
		}
	}
}
