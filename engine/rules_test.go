package engine_test

import (
	"slices"
	"testing"

	"milestone/api"
	"milestone/engine"
	"milestone/net"
)

// anyOddCommand is any whatever.
func (d *dice) anyOddCommand() engine.Cmd {
	c := engine.Cmd{Kind: d.anyNumber(10), Text: d.anySigns(), X: one(d, odd), Y: one(d, odd), Pairs: d.anyPairs(2)}
	for range d.below(30) {
		c.B = append(c.B, byte(d.below(256)))
	}
	return c
}

func (d *dice) anySigns() string {
	signs := "wbcft.*+?{}()[]|0_9,net edge\n \x00\xff"
	var row []byte
	for range d.below(12) {
		row = append(row, signs[d.below(len(signs))])
	}
	return string(row)
}

func TestP1OfAnythingWhatever(t *testing.T) {
	d := dice(7)
	for range 400 {
		p := newPlayer(t)
		if d.below(4) > 0 {
			p.play(engine.Cmd{Kind: engine.Load, Text: net.Text(d.anySmallNet())})
		}
		if d.below(2) == 0 {
			p.play(engine.Cmd{Kind: engine.Build})
		}
		for range 25 {
			p.play(d.anyOddCommand())
		}
	}
}

// An engine that New did not make has nothing either.
func TestP1OfAnEngineThatIsZero(t *testing.T) {
	var e engine.Engine
	checkHas(t, &e, "", false)
	check(t, &e, engine.Cmd{Kind: engine.Build}, "load")
	check(t, &e, engine.Cmd{Kind: engine.Load, Text: island}, "ok")
	checkHas(t, &e, island, false)
}

// roomy is a row with spare room behind it, filled with a sign.
func roomy[T any](row []T, sign T) []T {
	return append(slices.Clone(row), sign, sign, sign)[:len(row)]
}

// whole is a copy of the row and its spare room.
func whole[T any](row []T) []T {
	return slices.Clone(row[:cap(row)])
}

// spoil fills a row and its spare room.
func spoil[T any](row []T, sign T) {
	for i := range row[:cap(row)] {
		row[:cap(row)][i] = sign
	}
}

// spoilTold fills all lists of an answer.
func spoilTold(got engine.Told) {
	spoil(got.Route.Edges, 3)
	spoil(got.Costs, 3)
	spoil(got.B, 3)
}

func TestP2WhatIsHandedInIsNotChanged(t *testing.T) {
	d := dice(8)
	for range 60 {
		p := newPlayer(t)
		var saved [][]byte
		for range 40 {
			c := d.anyCommand(max(p.n.N, 1), saved)
			c.B, c.Pairs = roomy(c.B, 77), roomy(c.Pairs, [2]int{78, 79})
			b, pairs := whole(c.B), whole(c.Pairs)
			got := p.play(c)
			if got.E == api.OK && len(got.B) > 0 {
				saved = append(saved, slices.Clone(got.B))
			}
			spoilTold(got)
			if !slices.Equal(whole(c.B), b) || !slices.Equal(whole(c.Pairs), pairs) {
				t.Fatalf("changed: %v, not %x, %v", c, b, pairs)
			}
		}
	}
}

// What was handed in, and what was told, may be changed: what is told anew is as it was.
func TestP2NothingIsKeptOrShared(t *testing.T) {
	d := dice(9)
	for range 60 {
		p := newPlayer(t)
		var saved [][]byte
		for range 40 {
			c := d.anyCommand(max(p.n.N, 1), saved)
			b, pairs := slices.Clone(c.B), slices.Clone(c.Pairs)
			got := p.play(c)
			if got.E == api.OK && len(got.B) > 0 {
				saved = append(saved, slices.Clone(got.B))
			}
			spoil(c.B, 5)
			spoil(c.Pairs, [2]int{5, 5})
			spoilTold(got)
			n, _ := p.e.Net()
			spoil(n.Edges, api.Edge{From: 1, Cost: 5})
			spoil(append(n.Edges, api.Edge{From: 1, Cost: 5}), api.Edge{To: 1})
			p.hold()
			c.B, c.Pairs = b, pairs
			if c.Kind != engine.Load && c.Kind != engine.Restore { // those would bring anew what may have been spoilt
				p.play(c)
			}
			p.play(engine.Cmd{Kind: engine.Save})
		}
	}
}

// What was told is as it was, whatever the engine does then.
func TestP2WhatWasToldStays(t *testing.T) {
	e := built(t, island)
	n, _ := e.Net()
	other, _ := e.Net()
	b := must(t, e, engine.Cmd{Kind: engine.Save}).B
	r := must(t, e, engine.Cmd{Kind: engine.Route, Text: ".*", Y: 2}).Route
	costs := must(t, e, engine.Cmd{Kind: engine.Batch, Text: ".*", Pairs: [][2]int{{0, 1}, {0, 2}}}).Costs
	spoil(other.Edges, api.Edge{})
	must(t, e, engine.Cmd{Kind: engine.Update, X: 0, Y: 1000})
	must(t, e, engine.Cmd{Kind: engine.Route, Text: ".*", Y: 1})
	must(t, e, engine.Cmd{Kind: engine.Save})
	must(t, e, engine.Cmd{Kind: engine.Load, Text: "net 3"})
	if net.Text(n) != island || !slices.Equal(b, bytesOf(n)) {
		t.Errorf("%v, %x", n, b)
	}
	if r.Cost != 12 || !slices.Equal(r.Edges, []int{0, 1}) || !slices.Equal(costs, []int{5, 12}) {
		t.Errorf("%v, %v", r, costs)
	}
}

func TestP3TheSameCallsAnswerTheSame(t *testing.T) {
	d := dice(10)
	for range 60 {
		one, two := engine.New(), engine.New()
		var saved [][]byte
		for range 40 {
			n, _ := one.Net()
			c := d.anyCommand(max(n.N, 1), saved)
			got, again := one.Do(c), two.Do(c)
			if tell(got) != tell(again) {
				t.Fatalf("%v: %s, %s", c, tell(got), tell(again))
			}
			if len(got.B) > 0 {
				saved = append(saved, got.B)
			}
		}
	}
}

// P4: beside an error there is nothing but its place, and of each kind there is nothing but what its promise names.
func TestP4NothingBesideIt(t *testing.T) {
	d := dice(11)
	for range 60 {
		e := engine.New()
		var saved [][]byte
		for range 60 {
			n, _ := e.Net()
			c := d.anyCommand(max(n.N, 1), saved)
			got := e.Do(c)
			if len(got.B) > 0 {
				saved = append(saved, got.B)
			}
			way := got.Route.Cost != 0 || len(got.Route.Edges) > 0
			switch {
			case got.E == api.OK && got.At != 0,
				got.At != 0 && got.E != api.BadNetwork && got.E != api.BadRegex && got.E != api.RegexTooLarge,
				way && (got.E != api.OK || c.Kind != engine.Route),
				len(got.Costs) > 0 && (got.E != api.OK || c.Kind != engine.Many && c.Kind != engine.Batch),
				len(got.B) > 0 && (got.E != api.OK || c.Kind != engine.Save):
				t.Errorf("%v: %s", c, tell(got))
			}
		}
	}
}

// P7: engines whose commands are mixed do not touch one another; each saves what the others may restore.
func TestP7EnginesSideBySide(t *testing.T) {
	d := dice(12)
	for range 40 {
		players := []*player{newPlayer(t), newPlayer(t), newPlayer(t)}
		var saved [][]byte
		for range 120 {
			p := one(&d, players)
			got := p.play(d.anyCommand(max(p.n.N, 1), saved))
			if got.E == api.OK && len(got.B) > 0 {
				saved = append(saved, got.B)
			}
			for _, other := range players {
				other.hold()
			}
		}
	}
}

// A copy of an engine is one of its own.
func TestP7ACopy(t *testing.T) {
	for _, e := range states(t)[1:] {
		other, was := *e, e.Built()
		must(t, &other, engine.Cmd{Kind: engine.Update, X: 2, Y: 3})
		checkHas(t, e, island, was)
		check(t, e, engine.Cmd{Kind: engine.Route, Text: ".*", Y: 2}, "ok 12 by [0 1]")
		check(t, &other, engine.Cmd{Kind: engine.Route, Text: ".*", Y: 2}, "ok 3 by [2]")
	}
}
