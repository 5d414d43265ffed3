package engine_test

import (
	"fmt"
	"slices"
	"testing"

	"milestone/api"
	"milestone/dfa"
	"milestone/engine"
	"milestone/hier"
	"milestone/index"
	"milestone/mini"
	"milestone/net"
	"milestone/query"
	"milestone/regex"
)

// island is the text of a network: 0, 1 and 2 have ways to one another, 3 has none.
const island = "net 4\nedge 0 1 w 5\nedge 1 2 b 7\nedge 0 2 t 20\nedge 2 0 w 1\nedge 2 1 b 2\n"

// steadyTexts are expressions by which ways go by arcs, if there is a hierarchy.
func steadyTexts() []string {
	return []string{".*", ".+", "_", "0", "w*", "w+", "[wb]*", "w*b*", "w+b+", "w+c*w+", "c+|w+", "w*b*c*f*t*", "w*(t+w*)*", "[wbc]+", "b*w+"}
}

// countingTexts are expressions by which they do not.
func countingTexts() []string {
	return []string{"w", "t", "(ww)*", "w{2,3}", "[wb]*t?[wb]*", "(wb)*", ".{3,3}", ".{0,2}", "b?w+", "."}
}

// wrong is a text that is refused as an expression: by which code, at which place.
type wrong struct {
	text string
	code api.Errno
	at   int
}

func refusedTexts() []wrong {
	return []wrong{
		{"", api.BadRegex, 0},
		{")", api.BadRegex, 0},
		{"w(", api.BadRegex, 2},
		{"wbx", api.BadRegex, 2},
		{"w|", api.BadRegex, 2},
		{"ww{3,2}", api.BadRegex, 2},
		{"[w]t[]", api.BadRegex, 5},
		{string(make([]byte, 201)), api.RegexTooLarge, 0},
		{deep(31, "w"), api.RegexTooLarge, 30},
		{"wb" + deep(31, "w"), api.RegexTooLarge, 32},
		{"w{9,9}{9,9}{9,9}", api.RegexTooLarge, 0},
		{"[wb]*w[wb]{7,7}", api.DfaTooLarge, 0},
	}
}

// deep is a text in so many brackets.
func deep(brackets int, text string) string {
	for range brackets {
		text = "(" + text + ")"
	}
	return text
}

// tell writes an answer as a text: its code, then what else of it is not zero.
func tell(got engine.Told) string {
	s := got.E.Error()
	if got.At != 0 {
		s += fmt.Sprint(" at ", got.At)
	}
	if got.Route.Cost != 0 || len(got.Route.Edges) > 0 {
		s += fmt.Sprint(" ", got.Route.Cost, " by ", got.Route.Edges)
	}
	if len(got.Costs) > 0 {
		s += fmt.Sprint(" ", got.Costs)
	}
	if len(got.B) > 0 {
		s += fmt.Sprintf(" %x", got.B)
	}
	return s
}

// check holds an answer against one that is written by hand.
func check(t *testing.T, e *engine.Engine, c engine.Cmd, want string) {
	t.Helper()
	if got := tell(e.Do(c)); got != want {
		t.Errorf("%v: %s, not %s", c, got, want)
	}
}

// checkHas holds what an engine has: the text of its network ("": none), whether there is a hierarchy.
func checkHas(t *testing.T, e *engine.Engine, text string, built bool) {
	t.Helper()
	n, is := e.Net()
	if is != (text != "") || net.Text(n) != text || !is && (n.N != 0 || len(n.Edges) > 0) {
		t.Errorf("network %v, %v, not %q", n, is, text)
	}
	if e.Built() != built {
		t.Errorf("built %v, not %v", e.Built(), built)
	}
}

// must does a command that is not to be refused.
func must(t *testing.T, e *engine.Engine, c engine.Cmd) engine.Told {
	t.Helper()
	got := e.Do(c)
	if got.E != api.OK {
		t.Fatalf("%v: %s", c, tell(got))
	}
	return got
}

// loaded is an engine that has this network.
func loaded(t *testing.T, text string) *engine.Engine {
	t.Helper()
	e := engine.New()
	must(t, e, engine.Cmd{Kind: engine.Load, Text: text})
	return e
}

// built is an engine that has this network and its hierarchy.
func built(t *testing.T, text string) *engine.Engine {
	t.Helper()
	e := loaded(t, text)
	must(t, e, engine.Cmd{Kind: engine.Build})
	return e
}

// states are engines of all that there may be: no network; a network; its hierarchy too.
func states(t *testing.T) []*engine.Engine {
	t.Helper()
	return []*engine.Engine{engine.New(), loaded(t, island), built(t, island)}
}

// bytesOf are those of the hierarchy that is built of a network.
func bytesOf(n api.Net) []byte {
	return index.Encode(hier.Build(n))
}

func parsed(t *testing.T, text string) api.Net {
	t.Helper()
	n, line, e := net.Parse(text)
	if e != api.OK {
		t.Fatalf("%s: line %d", text, line)
	}
	return n
}

// detour is a hierarchy that hier.Build did not build: its only arc is an edge that costs more than the way by the other two.
func detour(t *testing.T) api.Index {
	t.Helper()
	n := parsed(t, detourText)
	arc := api.Arc{From: 0, To: 2, Mode: 0, Cost: 5, Edge: 2}
	return api.Index{Net: n, Rank: []int{-1, -1, -1}, Arcs: []api.Arc{arc}, Up: [][]int{{0}, nil, nil}, Down: make([][]int, 3)}
}

const detourText = "net 3\nedge 0 1 w 1\nedge 1 2 w 1\nedge 0 2 w 5\n"

// least are the least costs from a vertex by a machine's language: a plain count over all pairs of vertex and state, until nothing costs less; -1: none.
func least(n api.Net, d api.Dfa, from int) []int {
	many := len(d.Next)
	cost := slices.Repeat([]int{-1}, n.N*many)
	cost[from*many] = 0
	for less := true; less; {
		less = false
		for _, e := range n.Edges {
			for state, row := range d.Next {
				was, to := cost[e.From*many+state], e.To*many+row[e.Mode]
				if was >= 0 && (cost[to] < 0 || was+e.Cost < cost[to]) {
					cost[to], less = was+e.Cost, true
				}
			}
		}
	}
	costs := slices.Repeat([]int{-1}, n.N)
	for v := range costs {
		for state, c := range cost[v*many : (v+1)*many] {
			if d.Accept[state] && c >= 0 && (costs[v] < 0 || c < costs[v]) {
				costs[v] = c
			}
		}
	}
	return costs
}

// isWay tells whether a route is a walk of its cost, whose word is taken.
func isWay(n api.Net, d api.Dfa, from, to int, r api.Route) bool {
	cost, word, is := net.Walk(n, from, to, r.Edges)
	return is && cost == r.Cost && dfa.Run(d, word)
}

// player plays commands to an engine, and keeps beside it what it has to have, as the chapter tells it.
type player struct {
	*testing.T
	e     *engine.Engine
	n     api.Net
	has   bool
	saved []byte // what Save has to tell; none, if there is no hierarchy
	other bool   // whether the hierarchy was restored, and is not the one that Build builds
}

func newPlayer(t *testing.T) *player {
	return &player{T: t, e: engine.New()}
}

// play does a command, and holds what is told, and what the engine has then.
func (p *player) play(c engine.Cmd) engine.Told {
	p.Helper()
	got := p.e.Do(c)
	code, at := p.code(c)
	if code == api.OK {
		p.done(c)
	}
	want := engine.Told{E: code, At: at}
	switch {
	case code != api.OK:
	case c.Kind == engine.Save:
		want.B = p.saved
	case c.Kind == engine.Many, c.Kind == engine.Batch:
		want.Costs = p.costs(c)
	case c.Kind == engine.Route:
		want = p.route(c, got)
	}
	if tell(got) != tell(want) {
		p.Fatalf("%v: %s, not %s; network %v, hierarchy %x", c, tell(got), tell(want), p.n, p.saved)
	}
	p.hold()
	return got
}

// hold holds what the engine has.
func (p *player) hold() {
	p.Helper()
	checkHas(p.T, p.e, net.Text(p.n), p.saved != nil)
}

// code is the one that a command has to be answered by, but for NoPath, and its place.
func (p *player) code(c engine.Cmd) (api.Errno, int) {
	switch {
	case c.Kind < 1 || c.Kind > 8:
		return api.BadCommand, 0
	case c.Kind == engine.Load:
		_, line, e := net.Parse(c.Text)
		return e, line
	case c.Kind == engine.Restore:
		_, e := index.Decode(c.B)
		return e, 0
	case !p.has:
		return api.NotLoaded, 0
	case c.Kind == engine.Save && p.saved == nil:
		return api.NotBuilt, 0
	case c.Kind == engine.Update && (c.X < 0 || c.X >= len(p.n.Edges)):
		return api.BadEdge, 0
	case c.Kind == engine.Update && (c.Y < 0 || c.Y > 1<<31-1):
		return api.BadCost, 0
	case c.Kind >= engine.Route:
		return p.codeOfWays(c)
	}
	return api.OK, 0
}

func (p *player) codeOfWays(c engine.Cmd) (api.Errno, int) {
	if _, at, e := regex.Parse(c.Text); e != api.OK {
		return e, at
	}
	if _, e := mini.Compile(c.Text); e != api.OK {
		return e, 0
	}
	vertices := [][]int{{c.X, c.Y}, {c.X}, nil}[c.Kind-engine.Route]
	for _, pair := range c.Pairs {
		switch c.Kind {
		case engine.Many:
			vertices = append(vertices, pair[1])
		case engine.Batch:
			vertices = append(vertices, pair[0], pair[1])
		}
	}
	if slices.ContainsFunc(vertices, func(v int) bool { return v < 0 || v >= p.n.N }) {
		return api.BadVertex, 0
	}
	return api.OK, 0
}

// done keeps what a command that is not refused changes.
func (p *player) done(c engine.Cmd) {
	switch c.Kind {
	case engine.Load:
		p.n, _, _ = net.Parse(c.Text)
		p.has, p.saved = true, nil
	case engine.Build:
		p.saved, p.other = bytesOf(p.n), false
	case engine.Restore:
		x, _ := index.Decode(c.B)
		p.n, p.has, p.saved = x.Net, true, slices.Clone(c.B)
		p.other = !slices.Equal(p.saved, bytesOf(p.n))
	case engine.Update:
		p.n.Edges[c.X].Cost = c.Y
		if p.saved != nil {
			p.saved, p.other = bytesOf(p.n), false
		}
	}
}

// costsFrom are those of ways from a vertex; of a hierarchy that Build did not build, what query tells.
func (p *player) costsFrom(d api.Dfa, from int) []int {
	if !p.other || p.saved == nil {
		return least(p.n, d, from)
	}
	x, _ := index.Decode(p.saved)
	all := make([]int, p.n.N)
	for v := range all {
		all[v] = v
	}
	return query.Many(x, d, from, all)
}

func (p *player) costs(c engine.Cmd) []int {
	d, _ := mini.Compile(c.Text)
	var costs []int
	for _, pair := range c.Pairs {
		from := c.X
		if c.Kind == engine.Batch {
			from = pair[0]
		}
		costs = append(costs, p.costsFrom(d, from)[pair[1]])
	}
	return costs
}

// route is what has to be told of a way: its edges are any, if they are a walk of the least cost, its word taken.
func (p *player) route(c engine.Cmd, got engine.Told) engine.Told {
	d, _ := mini.Compile(c.Text)
	cost := p.costsFrom(d, c.X)[c.Y]
	if cost < 0 {
		return engine.Told{E: api.NoPath}
	}
	want := engine.Told{Route: api.Route{Cost: cost, Edges: got.Route.Edges}}
	if !isWay(p.n, d, c.X, c.Y, got.Route) {
		want.Route.Edges = nil
		p.Errorf("%v: %v is no such walk of %v", c, got.Route, p.n)
	}
	return want
}
