// Package net: networks as texts. See doc/01-net.md.
package net

import (
	"strconv"
	"strings"

	"milestone/api"
)

// signs are the modes' signs, in the order of their numbers.
const signs = "wbcft"

// maxText is the most bytes that a network's text may have.
const maxText = 60000

// Check tells whether n is a network.
func Check(n api.Net) bool {
	if !countFits(n.N) || len(n.Edges) > api.MaxEdges {
		return false
	}
	for _, e := range n.Edges {
		if !edgeFits(e, n.N) {
			return false
		}
	}
	return true
}

func countFits(vertices int) bool {
	return vertices >= 1 && vertices <= api.MaxNodes
}

func edgeFits(e api.Edge, vertices int) bool {
	return below(e.From, vertices) && below(e.To, vertices) &&
		below(e.Mode, api.Modes) && e.Cost >= 0 && e.Cost <= api.MaxCost
}

// below tells whether i is one of the numbers from 0 on that are less than count.
func below(i, count int) bool {
	return i >= 0 && i < count
}

// Parse reads a network as Text writes it; of a text that is none it tells the first line at fault.
func Parse(s string) (n api.Net, line int, e api.Errno) {
	n, err := read(s)
	line, e = tell(err)
	return n, line, e
}

// fault is an error that knows its line; line 0 is the text as a whole.
type fault struct {
	api.Errno
	line int
}

// tell takes apart what read answered beside its network.
func tell(err error) (line int, e api.Errno) {
	if f, is := err.(fault); is {
		return f.line, f.Errno
	}
	return 0, api.OK
}

func read(s string) (api.Net, error) {
	if len(s) > maxText {
		return api.Net{}, fault{Errno: api.BadNetwork}
	}
	r := newReader()
	for i, line := range strings.Split(s, "\n") {
		if line != "" && !r.next(strings.Split(line, " ")) {
			return api.Net{}, fault{api.BadNetwork, i + 1}
		}
	}
	if r.n.N == 0 { // no line counted, so no line was refused
		return api.Net{}, fault{api.BadNetwork, 1}
	}
	return r.n, nil
}

// reader gathers a network line by line.
type reader struct {
	n    api.Net
	next func(words []string) bool // reads the next line: which lines may follow hangs on those before it
}

func newReader() *reader {
	r := &reader{}
	r.next = r.head
	return r
}

func (r *reader) head(words []string) bool {
	if len(words) != 2 || words[0] != "net" {
		return false
	}
	vertices, is := number(words[1])
	if !is || !countFits(vertices) {
		return false
	}
	r.n.N = vertices
	r.next = r.edge
	return true
}

func (r *reader) edge(words []string) bool {
	if len(words) != 5 || words[0] != "edge" || len(r.n.Edges) == api.MaxEdges {
		return false
	}
	from, isFrom := number(words[1])
	to, isTo := number(words[2])
	mode, isMode := modeOf(words[3])
	cost, isCost := number(words[4])
	e := api.Edge{From: from, To: to, Mode: mode, Cost: cost}
	if !isFrom || !isTo || !isMode || !isCost || !edgeFits(e, r.n.N) {
		return false
	}
	r.n.Edges = append(r.n.Edges, e)
	return true
}

// number reads the one text that a number has: writing it anew refuses signs and a 0 ahead, which Atoi lets pass.
func number(text string) (int, bool) {
	v, err := strconv.Atoi(text)
	if err != nil || v < 0 || strconv.Itoa(v) != text {
		return 0, false
	}
	return v, true
}

func modeOf(text string) (int, bool) {
	if len(text) != 1 {
		return 0, false
	}
	mode := strings.IndexByte(signs, text[0])
	return mode, mode >= 0
}

// Text writes a network, a line each for how many vertices and for each edge.
func Text(n api.Net) string {
	if !Check(n) { // a mode that is none has no sign
		return ""
	}
	var b strings.Builder
	writeLine(&b, "net", strconv.Itoa(n.N))
	for _, e := range n.Edges {
		sign := signs[e.Mode : e.Mode+1]
		writeLine(&b, "edge", strconv.Itoa(e.From), strconv.Itoa(e.To), sign, strconv.Itoa(e.Cost))
	}
	return b.String()
}

func writeLine(b *strings.Builder, words ...string) {
	b.WriteString(strings.Join(words, " "))
	b.WriteByte('\n')
}

// Walk tells whether edges lead, one behind the other, from a vertex to a vertex; what that costs, and by which modes.
func Walk(n api.Net, from, to int, edges []int) (cost int, word []int, is bool) {
	if !below(from, n.N) || !below(to, n.N) {
		return 0, nil, false
	}
	at := from
	for _, i := range edges {
		if !below(i, len(n.Edges)) || n.Edges[i].From != at {
			return 0, nil, false
		}
		e := n.Edges[i]
		at = e.To
		cost += e.Cost
		word = append(word, e.Mode)
	}
	if at != to {
		return 0, nil, false
	}
	return cost, word, true
}
