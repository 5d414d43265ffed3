package engine

import (
	"milestone/api"
	"milestone/hier"
	"milestone/index"
	"milestone/net"
)

// action does the commands of one kind.
type action func(e *Engine, c Cmd) Told

// actions tells of each kind what does it.
func actions() map[int]action {
	return map[int]action{
		Load:    (*Engine).load,
		Build:   onceLoaded((*Engine).build),
		Save:    onceLoaded((*Engine).save),
		Restore: (*Engine).restore,
		Update:  onceLoaded((*Engine).update),
		Route:   onceLoaded((*Engine).route),
		Many:    onceLoaded((*Engine).many),
		Batch:   onceLoaded((*Engine).batch),
	}
}

// onceLoaded is an action that is refused as long as there is no network, ahead of all else that may be wrong.
func onceLoaded(act action) action {
	return func(e *Engine, c Cmd) Told {
		if !e.loaded {
			return Told{E: api.NotLoaded}
		}
		return act(e, c)
	}
}

func (e *Engine) load(c Cmd) Told {
	n, line, code := net.Parse(c.Text)
	if code != api.OK {
		return Told{E: code, At: line}
	}
	*e = Engine{index: api.Index{Net: n}, loaded: true}
	return Told{}
}

func (e *Engine) build(c Cmd) Told {
	e.index, e.built = hier.Build(e.index.Net), true
	return Told{}
}

func (e *Engine) save(c Cmd) Told {
	if !e.built {
		return Told{E: api.NotBuilt}
	}
	return Told{B: index.Encode(e.index)}
}

func (e *Engine) restore(c Cmd) Told {
	x, code := index.Decode(c.B)
	if code != api.OK {
		return Told{E: code}
	}
	*e = Engine{index: x, loaded: true, built: true}
	return Told{}
}

// update changes a copy of the edges: an engine's copy has the same list, and is not to be touched.
func (e *Engine) update(c Cmd) Told {
	edge, cost := c.X, c.Y
	n := copyOf(e.index.Net)
	if edge < 0 || edge >= len(n.Edges) {
		return Told{E: api.BadEdge}
	}
	if cost < 0 || cost > api.MaxCost {
		return Told{E: api.BadCost}
	}
	n.Edges[edge].Cost = cost
	e.index.Net = n
	if e.built {
		return e.build(c)
	}
	return Told{}
}
