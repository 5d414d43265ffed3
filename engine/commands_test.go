package engine_test

import (
	"encoding/hex"
	"math"
	"slices"
	"strings"
	"testing"

	"milestone/api"
	"milestone/engine"
	"milestone/hier"
	"milestone/index"
	"milestone/net"
)

func TestP1401New(t *testing.T) {
	checkHas(t, engine.New(), "", false)
}

func TestP1401NoKind(t *testing.T) {
	for i, e := range states(t) {
		for _, kind := range []int{0, 9, -1, -8, 10, 100, 1<<32 + 1, 1<<32 + 6, -1<<32 + 1, math.MaxInt, math.MinInt} {
			check(t, e, engine.Cmd{Kind: kind}, "command")
			check(t, e, engine.Cmd{Kind: kind, Text: island, B: []byte{1}, X: 1, Y: 2, Pairs: [][2]int{{0, 1}}}, "command")
		}
		checkHas(t, e, []string{"", island, island}[i], i == 2)
	}
}

func TestP1401Kinds(t *testing.T) {
	kinds := []int{engine.Load, engine.Build, engine.Save, engine.Restore, engine.Update, engine.Route, engine.Many, engine.Batch}
	if !slices.Equal(kinds, []int{1, 2, 3, 4, 5, 6, 7, 8}) {
		t.Errorf("%v", kinds)
	}
}

func TestP1401Load(t *testing.T) {
	for _, text := range []string{island, "net 1\n", "net 60\n", "net 2\nedge 0 0 t 2147483647\nedge 1 0 f 0\n", net.Text(api.Net{N: 60, Edges: make([]api.Edge, 400)})} {
		for _, e := range states(t) {
			check(t, e, engine.Cmd{Kind: engine.Load, Text: text}, "ok")
			checkHas(t, e, text, false) // a hierarchy is put away
			check(t, e, engine.Cmd{Kind: engine.Save}, "build")
		}
	}
	e := engine.New()
	check(t, e, engine.Cmd{Kind: engine.Load, Text: "\n\nnet 2\n\nedge 0 1 b 3", B: []byte{1}, X: -1, Y: -1, Pairs: [][2]int{{9, 9}}}, "ok")
	checkHas(t, e, "net 2\nedge 0 1 b 3\n", false)
}

// A text that is refused leaves the network and the hierarchy as they were.
func TestP1401LoadRefused(t *testing.T) {
	many := net.Text(api.Net{N: 60, Edges: make([]api.Edge, 400)})
	for text, want := range map[string]string{
		"":                             "network at 1",
		"\n\n":                         "network at 1",
		"net":                          "network at 1",
		"net 0":                        "network at 1",
		"net 61":                       "network at 1",
		"net 01":                       "network at 1",
		"net -1":                       "network at 1",
		"edge 0 1 w 5":                 "network at 1",
		"net 3\nnet 3":                 "network at 2",
		"net 3\n\n\nfoo":               "network at 4",
		"net 3\nedge 0 3 w 5":          "network at 2",
		"net 3\nedge 3 0 w 5":          "network at 2",
		"net 3\nedge 0 1 x 5":          "network at 2",
		"net 3\nedge 0 1 w -1":         "network at 2",
		"net 3\nedge 0 1 w":            "network at 2",
		"net 3\nedge  0 1 w 5":         "network at 2",
		island + "edge 0 1 w 5 ":       "network at 7",
		island + "\nedge 0 1 w w5":     "network at 8",
		"net 2\nedge 0 1 w 2147483648": "network at 2",
		many + "edge 0 0 w 0":          "network at 402",
		strings.Repeat("\n", 60001):    "network",
		island + strings.Repeat("\n", 60001-len(island)): "network",
	} {
		for i, e := range states(t) {
			check(t, e, engine.Cmd{Kind: engine.Load, Text: text}, want)
			checkHas(t, e, []string{"", island, island}[i], i == 2)
		}
	}
}

func TestP1401Build(t *testing.T) {
	e := engine.New()
	check(t, e, engine.Cmd{Kind: engine.Build}, "load")
	checkHas(t, e, "", false)
	must(t, e, engine.Cmd{Kind: engine.Load, Text: island})
	for range 2 {
		check(t, e, engine.Cmd{Kind: engine.Build, Text: "(", X: -1, Y: -1}, "ok")
		checkHas(t, e, island, true)
		check(t, e, engine.Cmd{Kind: engine.Save}, "ok "+hex.EncodeToString(bytesOf(parsed(t, island))))
	}
}

func TestP1401Save(t *testing.T) {
	e := engine.New()
	check(t, e, engine.Cmd{Kind: engine.Save}, "load")
	must(t, e, engine.Cmd{Kind: engine.Load, Text: "net 1"})
	check(t, e, engine.Cmd{Kind: engine.Save}, "build")
	must(t, e, engine.Cmd{Kind: engine.Build})
	one := hex.EncodeToString([]byte("MIX1")) + "00000001" + "00000000" + "00000001" + "00000000" + "00000000" + "00000000"
	for range 2 {
		check(t, e, engine.Cmd{Kind: engine.Save, Text: "(", X: 9, Y: -1, B: []byte("MIX1")}, "ok "+one)
		checkHas(t, e, "net 1\n", true)
	}
	d := dice(1)
	for range 100 {
		n := d.anySmallNet()
		check(t, built(t, net.Text(n)), engine.Cmd{Kind: engine.Save}, "ok "+hex.EncodeToString(bytesOf(n)))
	}
}

func TestP1401Restore(t *testing.T) {
	d := dice(2)
	for range 100 {
		n := d.anySmallNet()
		b := must(t, built(t, net.Text(n)), engine.Cmd{Kind: engine.Save}).B
		for _, e := range append(states(t), built(t, net.Text(n))) {
			check(t, e, engine.Cmd{Kind: engine.Restore, B: b, Text: "(", X: -1, Y: 1 << 40}, "ok")
			checkHas(t, e, net.Text(n), true)
			check(t, e, engine.Cmd{Kind: engine.Save}, "ok "+hex.EncodeToString(b))
		}
	}
}

// What was built, saved, changed, is restored as it was saved: the network too.
func TestP1401RestoreInTheSameEngine(t *testing.T) {
	e := built(t, island)
	b := must(t, e, engine.Cmd{Kind: engine.Save}).B
	ask := engine.Cmd{Kind: engine.Route, Text: ".*", X: 0, Y: 2}
	check(t, e, ask, "ok 12 by [0 1]")
	must(t, e, engine.Cmd{Kind: engine.Update, X: 2, Y: 3})
	check(t, e, ask, "ok 3 by [2]")
	must(t, e, engine.Cmd{Kind: engine.Restore, B: b})
	checkHas(t, e, island, true)
	check(t, e, ask, "ok 12 by [0 1]")
	must(t, e, engine.Cmd{Kind: engine.Load, Text: "net 1"})
	check(t, e, ask, "vertex")
	must(t, e, engine.Cmd{Kind: engine.Restore, B: b})
	checkHas(t, e, island, true)
	check(t, e, ask, "ok 12 by [0 1]")
}

func TestP1401RestoreRefused(t *testing.T) {
	b := bytesOf(parsed(t, island))
	refused := [][]byte{nil, {}, {0}, []byte("MIX1"), []byte("MIX2"), []byte(island), slices.Concat(b, []byte{0}), slices.Concat(b, b), b[1:]}
	for i := range b {
		refused = append(refused, b[:i])
	}
	for i, e := range states(t) {
		for _, wrong := range refused {
			check(t, e, engine.Cmd{Kind: engine.Restore, B: wrong}, "index")
		}
		checkHas(t, e, []string{"", island, island}[i], i == 2)
	}
}

// Of bytes one of which is turned: they are refused, or, where they say of an edge that no arc stands for, the network and the hierarchy that they say are there.
func TestP1401RestoreTurned(t *testing.T) {
	b := bytesOf(parsed(t, detourText+"edge 0 2 w 9\n"))
	refused, taken := 0, 0
	p := newPlayer(t)
	for i := range b {
		for _, by := range []byte{1, 2, 4, 128, 255} {
			c := engine.Cmd{Kind: engine.Restore, B: slices.Clone(b)}
			c.B[i] += by
			if p.play(c).E != api.OK {
				refused++
				continue
			}
			taken++
			p.play(engine.Cmd{Kind: engine.Save})
			for from := range p.n.N {
				p.play(engine.Cmd{Kind: engine.Route, Text: ".*", X: from, Y: 0})
				p.play(engine.Cmd{Kind: engine.Many, Text: "w*b*", X: from, Pairs: [][2]int{{0, 0}, {0, 2}}})
			}
		}
	}
	if refused < 500 || taken < 10 {
		t.Errorf("%d refused, %d taken", refused, taken)
	}
}

// A hierarchy that Build did not build is the hierarchy all the same, till one is built anew.
func TestP1401RestoreOfAnother(t *testing.T) {
	b := index.Encode(detour(t))
	ask := engine.Cmd{Kind: engine.Route, Text: ".*", X: 0, Y: 2}
	anew := "ok " + hex.EncodeToString(bytesOf(parsed(t, detourText)))
	for _, then := range []engine.Cmd{{Kind: engine.Build}, {Kind: engine.Update, X: 2, Y: 5}} { // that cost is as it was
		e := engine.New()
		check(t, e, engine.Cmd{Kind: engine.Restore, B: b}, "ok")
		checkHas(t, e, detourText, true)
		check(t, e, engine.Cmd{Kind: engine.Save}, "ok "+hex.EncodeToString(b))
		check(t, e, ask, "ok 5 by [2]")
		check(t, e, engine.Cmd{Kind: engine.Many, Text: ".*", Pairs: [][2]int{{0, 2}, {0, 1}, {0, 0}}}, "ok [5 -1 0]")
		check(t, e, engine.Cmd{Kind: engine.Batch, Text: ".*", Pairs: [][2]int{{0, 2}, {1, 2}, {1, 1}}}, "ok [5 -1 0]")
		check(t, e, engine.Cmd{Kind: engine.Route, Text: "w{1,2}", Y: 2}, "ok 2 by [0 1]") // such a machine counts
		check(t, e, then, "ok")
		checkHas(t, e, detourText, true)
		check(t, e, engine.Cmd{Kind: engine.Save}, anew)
		check(t, e, ask, "ok 2 by [0 1]")
	}
}

func TestP1401Update(t *testing.T) {
	e := engine.New()
	check(t, e, engine.Cmd{Kind: engine.Update, X: -1, Y: -1}, "load")
	check(t, e, engine.Cmd{Kind: engine.Update}, "load")
	ask := engine.Cmd{Kind: engine.Route, Text: ".*", X: 0, Y: 2}
	for _, e := range states(t)[1:] {
		was := e.Built()
		for _, step := range []struct {
			edge, cost int
			has, way   string
		}{
			{2, 0, "net 4\nedge 0 1 w 5\nedge 1 2 b 7\nedge 0 2 t 0\nedge 2 0 w 1\nedge 2 1 b 2\n", "ok 0 by [2]"},
			{2, 13, "net 4\nedge 0 1 w 5\nedge 1 2 b 7\nedge 0 2 t 13\nedge 2 0 w 1\nedge 2 1 b 2\n", "ok 12 by [0 1]"},
			{0, 1<<31 - 1, "net 4\nedge 0 1 w 2147483647\nedge 1 2 b 7\nedge 0 2 t 13\nedge 2 0 w 1\nedge 2 1 b 2\n", "ok 13 by [2]"},
			{2, 1<<31 - 1, "net 4\nedge 0 1 w 2147483647\nedge 1 2 b 7\nedge 0 2 t 2147483647\nedge 2 0 w 1\nedge 2 1 b 2\n", "ok 2147483647 by [2]"},
			{4, 3, "net 4\nedge 0 1 w 2147483647\nedge 1 2 b 7\nedge 0 2 t 2147483647\nedge 2 0 w 1\nedge 2 1 b 3\n", "ok 2147483647 by [2]"},
			{4, 3, "net 4\nedge 0 1 w 2147483647\nedge 1 2 b 7\nedge 0 2 t 2147483647\nedge 2 0 w 1\nedge 2 1 b 3\n", "ok 2147483647 by [2]"},
		} {
			check(t, e, engine.Cmd{Kind: engine.Update, X: step.edge, Y: step.cost, Text: "(", B: []byte{1}, Pairs: [][2]int{{99, 99}}}, "ok")
			checkHas(t, e, step.has, was)
			check(t, e, ask, step.way)
			if was {
				check(t, e, engine.Cmd{Kind: engine.Save}, "ok "+hex.EncodeToString(bytesOf(parsed(t, step.has))))
			}
		}
	}
}

func TestP1401UpdateRefused(t *testing.T) {
	for _, e := range states(t)[1:] {
		was := e.Built()
		for _, edge := range []int{-1, 5, 6, 400, 1 << 32, 1<<32 + 1, math.MaxInt, math.MinInt} {
			for _, cost := range []int{0, 5, 1<<31 - 1, 1 << 31, -1, math.MinInt} {
				check(t, e, engine.Cmd{Kind: engine.Update, X: edge, Y: cost}, "edge") // ahead of what the cost is
			}
		}
		for _, cost := range []int{-1, 1 << 31, 1<<31 + 1, 1 << 32, 1<<32 + 5, -1 << 31, math.MaxInt, math.MinInt} {
			for edge := range 5 {
				check(t, e, engine.Cmd{Kind: engine.Update, X: edge, Y: cost}, "cost")
			}
		}
		checkHas(t, e, island, was)
	}
	check(t, loaded(t, "net 3"), engine.Cmd{Kind: engine.Update, Y: -1}, "edge") // there is none
	check(t, built(t, "net 3"), engine.Cmd{Kind: engine.Update}, "edge")
}

// Behind each of many changes all costs are those of the network as it is then, and Save tells what it would of that network built anew.
func TestP1401UpdateOverAndOver(t *testing.T) {
	d := dice(3)
	for i := range 30 {
		p := newPlayer(t)
		n := d.anyNet(1+d.below(6), 1+d.below(20))
		p.play(engine.Cmd{Kind: engine.Load, Text: net.Text(n)})
		if i%3 > 0 {
			p.play(engine.Cmd{Kind: engine.Build})
		}
		for range 8 {
			p.play(engine.Cmd{Kind: engine.Update, X: d.below(len(n.Edges)), Y: d.anyCost()})
			p.play(engine.Cmd{Kind: engine.Save})
			p.play(engine.Cmd{Kind: engine.Many, Text: one(&d, steadyTexts()), X: d.below(n.N), Pairs: allPairs(n.N)})
			p.play(engine.Cmd{Kind: engine.Batch, Text: one(&d, countingTexts()), Pairs: allPairs(n.N)})
			p.play(engine.Cmd{Kind: engine.Route, Text: one(&d, steadyTexts()), X: d.below(n.N), Y: d.below(n.N)})
		}
	}
}

// allPairs are those of all vertices.
func allPairs(vertices int) [][2]int {
	var pairs [][2]int
	for i := range vertices * vertices {
		pairs = append(pairs, [2]int{i / vertices, i % vertices})
	}
	return pairs
}

// The hierarchy is the one of package hier, the network that of package net, at the greatest size too.
func TestP1401TheGreatest(t *testing.T) {
	d := dice(4)
	n := d.anyNet(api.MaxNodes, api.MaxEdges)
	p := newPlayer(t)
	p.play(engine.Cmd{Kind: engine.Load, Text: net.Text(n)})
	p.play(engine.Cmd{Kind: engine.Build})
	b := p.play(engine.Cmd{Kind: engine.Save}).B
	if x, e := index.Decode(b); e != api.OK || !slices.Equal(x.Arcs, hier.Build(n).Arcs) {
		t.Errorf("%v, %d bytes", e, len(b))
	}
	p.play(engine.Cmd{Kind: engine.Update, X: 399, Y: 0})
	for _, text := range []string{".*", "w*b*c*", "[wb]*t?[wb]*"} {
		p.play(engine.Cmd{Kind: engine.Batch, Text: text, Pairs: allPairs(api.MaxNodes)[:200]})
	}
	p.play(engine.Cmd{Kind: engine.Restore, B: b})
	p.play(engine.Cmd{Kind: engine.Many, Text: ".*", Pairs: allPairs(api.MaxNodes)[:60]})
}
