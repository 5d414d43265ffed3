package engine_test

import (
	"math"
	"testing"

	"milestone/api"
	"milestone/engine"
	"milestone/net"
)

// askers are the kinds of commands that ask for ways.
var askers = []int{engine.Route, engine.Many, engine.Batch}

// outside are numbers that are no vertices of the island.
var outside = []int{-1, -4, 4, 5, 59, 60, 1 << 31, 1 << 32, 1<<32 + 1, -1 << 32, math.MaxInt, math.MinInt}

func TestP1402AheadOfANetwork(t *testing.T) {
	e := engine.New()
	for _, kind := range askers {
		for _, text := range []string{".*", "", "w(", "w{9,9}{9,9}{9,9}", "[wb]*w[wb]{7,7}"} {
			check(t, e, engine.Cmd{Kind: kind, Text: text}, "load")
			check(t, e, engine.Cmd{Kind: kind, Text: text, X: -1, Y: 99, Pairs: [][2]int{{-1, 99}}}, "load")
		}
	}
	checkHas(t, e, "", false)
}

// A text's error is told ahead of what the vertices are.
func TestP1402TextsThatAreRefused(t *testing.T) {
	for _, e := range states(t)[1:] {
		was := e.Built()
		for _, wrong := range refusedTexts() {
			want := tell(engine.Told{E: wrong.code, At: wrong.at})
			for _, kind := range askers {
				check(t, e, engine.Cmd{Kind: kind, Text: wrong.text}, want)
				check(t, e, engine.Cmd{Kind: kind, Text: wrong.text, X: -1, Y: 4, Pairs: [][2]int{{4, -1}}}, want)
			}
		}
		checkHas(t, e, island, was)
	}
}

func TestP1402VerticesThatAreNone(t *testing.T) {
	for _, e := range states(t)[1:] {
		for _, v := range outside {
			for _, text := range []string{".*", "w", "0"} {
				for _, c := range []engine.Cmd{
					{Kind: engine.Route, X: v},
					{Kind: engine.Route, Y: v},
					{Kind: engine.Route, X: v, Y: v},
					{Kind: engine.Many, X: v},
					{Kind: engine.Many, X: v, Pairs: [][2]int{{0, 0}}},
					{Kind: engine.Many, Pairs: [][2]int{{0, v}}},
					{Kind: engine.Many, Pairs: [][2]int{{0, 1}, {0, 2}, {0, v}}},
					{Kind: engine.Many, X: 1, Pairs: [][2]int{{0, v}, {0, 2}}},
					{Kind: engine.Batch, Pairs: [][2]int{{v, 0}}},
					{Kind: engine.Batch, Pairs: [][2]int{{0, v}}},
					{Kind: engine.Batch, Pairs: [][2]int{{0, 1}, {2, 2}, {3, v}}},
					{Kind: engine.Batch, Pairs: [][2]int{{0, 1}, {v, 1}, {3, 1}}},
				} {
					c.Text = text
					check(t, e, c, "vertex")
				}
			}
		}
	}
}

// The first of a pair of Many, Y of it, X and Y of Batch, the pairs of Route do not count.
func TestP1402WhatDoesNotCount(t *testing.T) {
	for _, e := range states(t)[1:] {
		for _, v := range append([]int{0, 1, 2, 3}, outside...) {
			check(t, e, engine.Cmd{Kind: engine.Many, Text: ".*", Y: v, Pairs: [][2]int{{v, 2}, {v, 1}, {v, 3}}}, "ok [12 5 -1]")
			check(t, e, engine.Cmd{Kind: engine.Batch, Text: ".*", X: v, Y: v, Pairs: [][2]int{{0, 2}, {2, 1}, {3, 3}}}, "ok [12 2 0]")
			check(t, e, engine.Cmd{Kind: engine.Route, Text: ".*", X: 0, Y: 2, Pairs: [][2]int{{v, v}}, B: []byte{9}}, "ok 12 by [0 1]")
			check(t, e, engine.Cmd{Kind: engine.Batch, Text: ".*", X: v}, "ok")
		}
	}
}

func TestP1402Route(t *testing.T) {
	for _, e := range states(t)[1:] {
		for _, ask := range []struct {
			text     string
			from, to int
			want     string
		}{
			{".*", 0, 2, "ok 12 by [0 1]"},
			{"t", 0, 2, "ok 20 by [2]"},
			{"t*", 0, 2, "ok 20 by [2]"},
			{"w*t", 2, 2, "ok 21 by [3 2]"},
			{"w+", 2, 1, "ok 6 by [3 0]"},
			{"[wb]{2,2}", 2, 1, "ok 6 by [3 0]"},
			{".{3,3}", 2, 2, "ok 13 by [3 0 1]"},
			{".+", 2, 2, "ok 9 by [4 1]"},
			{"(bb)+", 1, 1, "ok 9 by [1 4]"},
			{"f", 0, 2, "path"},
			{"0", 0, 0, "path"},
			{"w+", 0, 0, "path"},
			{"b*", 0, 1, "path"},
			{".*", 0, 3, "path"},
			{".*", 3, 0, "path"},
			{".+", 3, 3, "path"},
			{"_", 0, 1, "path"},
			{"_", 1, 1, "ok"},
			{".*", 3, 3, "ok"},
			{"w*", 0, 0, "ok"},
		} {
			check(t, e, engine.Cmd{Kind: engine.Route, Text: ask.text, X: ask.from, Y: ask.to}, ask.want)
		}
	}
}

// A way of cost 0 that has edges is told with them.
func TestP1402RouteOfNoCost(t *testing.T) {
	text := "net 2\nedge 0 1 w 0\nedge 1 0 w 0\n"
	for _, e := range []*engine.Engine{loaded(t, text), built(t, text)} {
		check(t, e, engine.Cmd{Kind: engine.Route, Text: "w+", Y: 1}, "ok 0 by [0]")
		check(t, e, engine.Cmd{Kind: engine.Route, Text: "w+"}, "ok 0 by [0 1]")
		check(t, e, engine.Cmd{Kind: engine.Batch, Text: "w+", Pairs: [][2]int{{0, 0}, {1, 0}}}, "ok [0 0]")
	}
}

func TestP1402ManyAndBatch(t *testing.T) {
	for _, e := range states(t)[1:] {
		for _, ask := range []struct {
			kind  int
			text  string
			from  int
			pairs [][2]int
			want  string
		}{
			{engine.Many, ".*", 0, [][2]int{{9, 2}, {9, 0}, {9, 1}, {9, 2}, {9, 3}, {9, 3}}, "ok [12 0 5 12 -1 -1]"},
			{engine.Many, "w+|t", 0, [][2]int{{1, 0}, {1, 1}, {1, 2}}, "ok [-1 5 20]"},
			{engine.Many, "w+", 2, [][2]int{{0, 2}, {0, 1}, {0, 0}}, "ok [-1 6 1]"},
			{engine.Many, "0", 2, [][2]int{{0, 2}}, "ok [-1]"},
			{engine.Many, ".*", 3, nil, "ok"},
			{engine.Many, "0", 3, [][2]int{}, "ok"},
			{engine.Batch, ".*", 9, [][2]int{{0, 2}, {2, 1}, {0, 2}, {2, 0}, {3, 0}, {0, 3}, {3, 3}}, "ok [12 2 12 1 -1 -1 0]"},
			{engine.Batch, "w+|t", 9, [][2]int{{0, 1}, {2, 1}, {1, 0}, {0, 2}}, "ok [5 6 -1 20]"},
			{engine.Batch, "(bb)+", 9, [][2]int{{1, 1}, {2, 2}, {1, 2}}, "ok [9 9 -1]"},
			{engine.Batch, "0", 9, [][2]int{{0, 0}, {1, 1}}, "ok [-1 -1]"},
			{engine.Batch, ".*", 9, nil, "ok"},
		} {
			check(t, e, engine.Cmd{Kind: ask.kind, Text: ask.text, X: ask.from, Pairs: ask.pairs}, ask.want)
		}
	}
}

// Ways by edges of the greatest costs are not cut.
func TestP1402TheGreatestCosts(t *testing.T) {
	n := api.Net{N: 60}
	for v := range 59 {
		n.Edges = append(n.Edges, api.Edge{From: v, To: v + 1, Cost: api.MaxCost})
	}
	for _, e := range []*engine.Engine{loaded(t, net.Text(n)), built(t, net.Text(n))} {
		check(t, e, engine.Cmd{Kind: engine.Many, Text: "w*", Pairs: [][2]int{{0, 59}, {0, 1}, {0, 2}}}, "ok [126701535173 2147483647 4294967294]")
		got := e.Do(engine.Cmd{Kind: engine.Route, Text: "w*", Y: 59})
		if got.Route.Cost != 59*api.MaxCost || len(got.Route.Edges) != 59 {
			t.Errorf("%s", tell(got))
		}
	}
}

// With a hierarchy, and with one that was saved and restored, there are the same codes and costs as without, each of them the least, each route a walk whose word is taken.
func TestP1402TheSameWithAndWithout(t *testing.T) {
	d := dice(5)
	for range 120 {
		n := d.anySmallNet()
		plain, short, read := newPlayer(t), newPlayer(t), newPlayer(t)
		plain.play(engine.Cmd{Kind: engine.Load, Text: net.Text(n)})
		short.play(engine.Cmd{Kind: engine.Load, Text: net.Text(n)})
		short.play(engine.Cmd{Kind: engine.Build})
		read.play(engine.Cmd{Kind: engine.Restore, B: short.play(engine.Cmd{Kind: engine.Save}).B})
		for range 12 {
			c := engine.Cmd{Kind: one(&d, askers), Text: d.anyText(), X: d.anyNumber(n.N), Y: d.anyNumber(n.N), Pairs: d.anyPairs(n.N)}
			want := plain.play(c)
			for _, p := range []*player{short, read} {
				got := p.play(c)
				got.Route.Edges = want.Route.Edges // of several ways of that cost each may tell another
				if tell(got) != tell(want) {
					t.Errorf("%v: %s, not %s", c, tell(got), tell(want))
				}
			}
		}
	}
}
