package engine

import (
	"slices"

	"milestone/api"
	"milestone/mini"
	"milestone/product"
	"milestone/query"
	"milestone/regex"
)

func (e *Engine) route(c Cmd) Told {
	by, refused := e.finderOf(c.Text, []int{c.X, c.Y})
	if refused.E != api.OK {
		return refused
	}
	r, is := by.route(c.X, c.Y)
	if !is {
		return Told{E: api.NoPath}
	}
	return Told{Route: r}
}

func (e *Engine) many(c Cmd) Told {
	pairs := slices.Clone(c.Pairs)
	for i := range pairs {
		pairs[i][0] = c.X
	}
	return e.costs(c.Text, pairs, c.X) // X is asked for by no pair, if there is none
}

func (e *Engine) batch(c Cmd) Told {
	return e.costs(c.Text, c.Pairs)
}

// costs tells of each pair the least cost from its first to its second vertex; more vertices may be asked for than those of the pairs.
func (e *Engine) costs(text string, pairs [][2]int, more ...int) Told {
	vertices := slices.Clone(more)
	for _, p := range pairs {
		vertices = append(vertices, p[:]...)
	}
	by, refused := e.finderOf(text, vertices)
	if refused.E != api.OK {
		return refused
	}
	return Told{Costs: by.each(pairs)}
}

// finder finds the least ways by one machine.
type finder struct {
	route func(from, to int) (api.Route, bool)
	costs func(from int) []int // of each vertex, -1: there is no way to it
}

// finderOf makes the finder by the machine of a text, if all these are vertices; else it tells why it is refused.
func (e *Engine) finderOf(text string, vertices []int) (by finder, refused Told) {
	d, code := mini.Compile(text)
	if code != api.OK {
		_, at, _ := regex.Parse(text) // at 0, if the text can be read: it is the machine that is too large
		return finder{}, Told{E: code, At: at}
	}
	if slices.ContainsFunc(vertices, e.lacks) {
		return finder{}, Told{E: api.BadVertex}
	}
	return e.finderBy(d), Told{}
}

func (e *Engine) lacks(vertex int) bool {
	return vertex < 0 || vertex >= e.index.Net.N
}

// finderBy goes by the hierarchy, if there is one.
func (e *Engine) finderBy(d api.Dfa) finder {
	if e.built {
		by := byArcs{e.index, d}
		return finder{by.route, by.costs}
	}
	by := byEdges{e.index.Net, d}
	return finder{by.route, by.costs}
}

// each tells the costs of pairs. One search from a vertex tells those of all pairs from there.
func (by finder) each(pairs [][2]int) []int {
	from := map[int][]int{}
	told := make([]int, len(pairs))
	for i, p := range pairs {
		if _, is := from[p[0]]; !is {
			from[p[0]] = by.costs(p[0])
		}
		told[i] = from[p[0]][p[1]]
	}
	return told
}

// byArcs finds the ways of a machine by a hierarchy.
type byArcs struct {
	index   api.Index
	machine api.Dfa
}

func (a byArcs) route(from, to int) (api.Route, bool) {
	return query.Route(a.index, a.machine, from, to)
}

func (a byArcs) costs(from int) []int {
	all := make([]int, a.index.Net.N)
	for v := range all {
		all[v] = v
	}
	return query.Many(a.index, a.machine, from, all)
}

// byEdges finds them by the network alone.
type byEdges struct {
	net     api.Net
	machine api.Dfa
}

func (g byEdges) route(from, to int) (api.Route, bool) {
	return product.Route(g.net, g.machine, from, to)
}

func (g byEdges) costs(from int) []int {
	return product.Costs(g.net, g.machine, from)
}
