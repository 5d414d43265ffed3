package engine_test

import (
	"testing"

	"milestone/api"
	"milestone/engine"
	"milestone/net"
)

// refusedAlways are commands that are refused whatever the engine has, of each kind that there is and of none.
func refusedAlways() []engine.Cmd {
	all := []engine.Cmd{
		{}, {Kind: -1, X: 2, Y: 3}, {Kind: 9, Text: "net 2"},
		{Kind: engine.Load}, {Kind: engine.Load, Text: "net 0"}, {Kind: engine.Load, Text: "net 2\nedge 0 1 w 1\nedge 0 2 w 1"},
		{Kind: engine.Restore}, {Kind: engine.Restore, B: []byte("MIX1")}, {Kind: engine.Restore, B: bytesOf(api.Net{N: 2})[1:]},
		{Kind: engine.Update, X: 5, Y: 1}, {Kind: engine.Update, X: -1, Y: 1}, {Kind: engine.Update, X: 2, Y: -1}, {Kind: engine.Update, X: 2, Y: 1 << 31},
		{Kind: engine.Route, Text: "f", Y: 2}, // NoPath
	}
	for _, kind := range askers {
		for _, wrong := range refusedTexts() {
			all = append(all, engine.Cmd{Kind: kind, Text: wrong.text})
		}
		all = append(all, engine.Cmd{Kind: kind, Text: ".*", X: 9, Pairs: [][2]int{{9, 9}}})
	}
	return all
}

// refusedAsLong are those that are refused as long as there is no network, or no hierarchy.
func refusedAsLong(e *engine.Engine) []engine.Cmd {
	var all []engine.Cmd
	if !e.Built() {
		all = append(all, engine.Cmd{Kind: engine.Save})
	}
	if _, is := e.Net(); !is {
		all = append(all,
			engine.Cmd{Kind: engine.Build},
			engine.Cmd{Kind: engine.Update, X: 0, Y: 1},
			engine.Cmd{Kind: engine.Route, Text: ".*"},
			engine.Cmd{Kind: engine.Many, Text: ".*", Pairs: [][2]int{{0, 0}}},
			engine.Cmd{Kind: engine.Batch, Text: ".*", Pairs: [][2]int{{0, 0}}},
		)
	}
	return all
}

// seen is all that an engine tells of what it has.
func seen(e *engine.Engine, vertices int) string {
	n, is := e.Net()
	s := net.Text(n)
	if is {
		s += "there "
	}
	if e.Built() {
		s += "built "
	}
	s += tell(e.Do(engine.Cmd{Kind: engine.Save}))
	for _, text := range []string{".*", "w*b*", "[wb]*t?[wb]*"} {
		s += "; " + tell(e.Do(engine.Cmd{Kind: engine.Batch, Text: text, Pairs: allPairs(vertices)}))
		for from := range vertices {
			s += "; " + tell(e.Do(engine.Cmd{Kind: engine.Route, Text: text, X: from, Y: vertices - 1}))
		}
	}
	return s
}

func TestP1403WhatIsRefusedChangesNothing(t *testing.T) {
	for _, e := range states(t) {
		was := seen(e, 4)
		for _, c := range append(refusedAlways(), refusedAsLong(e)...) {
			if got := e.Do(c); got.E == api.OK {
				t.Errorf("%v is not refused", c)
			}
			if is := seen(e, 4); is != was {
				t.Errorf("behind %v: %s, not %s", c, is, was)
			}
		}
	}
}

// What was refused leaves nothing for what is done behind it.
func TestP1403WhatIsDoneBehindIt(t *testing.T) {
	disturbed, calm := engine.New(), engine.New()
	for _, c := range []engine.Cmd{
		{Kind: engine.Load, Text: island},
		{Kind: engine.Update, X: 1, Y: 9},
		{Kind: engine.Build},
		{Kind: engine.Update, X: 2, Y: 12},
		{Kind: engine.Save},
		{Kind: engine.Restore, B: bytesOf(parsed(t, island))},
		{Kind: engine.Update, X: 3, Y: 0},
		{Kind: engine.Load, Text: island},
		{Kind: engine.Build},
	} {
		for _, wrong := range append(refusedAlways(), refusedAsLong(disturbed)...) {
			disturbed.Do(wrong)
		}
		if got, want := tell(disturbed.Do(c)), tell(calm.Do(c)); got != want {
			t.Errorf("%v: %s, not %s", c, got, want)
		}
		if got, want := seen(disturbed, 4), seen(calm, 4); got != want {
			t.Errorf("behind %v: %s, not %s", c, got, want)
		}
	}
}

// T6, and T2: any commands, in any order, each held against what the chapter says of it.
func TestP1403AnyCommands(t *testing.T) {
	d := dice(6)
	counts := map[api.Errno]int{}
	for range 250 {
		p := newPlayer(t)
		var saved [][]byte
		for range 80 {
			got := p.play(d.anyCommand(max(p.n.N, 1), saved))
			counts[got.E]++
			if got.E == api.OK && len(got.B) > 0 {
				saved = append(saved, got.B)
			}
		}
	}
	for code := api.OK; code <= api.BadCommand; code++ {
		if counts[code] < 50 {
			t.Errorf("%v only %d times", code, counts[code])
		}
	}
}
