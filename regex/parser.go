package regex

import (
	"strings"

	"milestone/api"
)

// level is what was read of a bracket that is open, or of the whole.
type level struct {
	union []api.Node // those that a `|` ended
	join  []api.Node // what came behind the last `|`
}

// split ends one of the union.
func (l *level) split() {
	l.union = append(l.union, together(api.KJoin, l.join))
	l.join = nil
}

// whole ends the level, and tells what stands in it.
func (l *level) whole() api.Node {
	l.split()
	return together(api.KUnion, l.union)
}

// together is a node of all of these; of one alone that one.
func together(kind int, parts []api.Node) api.Node {
	if len(parts) == 1 {
		return parts[0]
	}
	return api.Node{Kind: kind, L: parts}
}

// parser goes through a text from left to right. Where it refuses, at stands at the fault.
type parser struct {
	s      string
	at     int
	levels []level // the whole's, then that of each open bracket
}

func newParser(s string) *parser {
	return &parser{s: s, levels: make([]level, 1)}
}

func (p *parser) inner() *level {
	return &p.levels[len(p.levels)-1]
}

// read takes all of the text. It is a machine of two states: one must begin here; one has ended here, and may be led on.
func (p *parser) read() api.Errno {
begin:
	switch {
	case p.take('('):
		if len(p.levels) > api.MaxDeep {
			p.at--
			return api.RegexTooLarge
		}
		p.levels = append(p.levels, level{})
		goto begin
	case p.single():
		goto behind
	}
	return api.BadRegex
behind:
	switch {
	case p.take('*'):
		p.wrap(api.Node{Kind: api.KStar})
		goto behind
	case p.take('+'):
		p.wrap(api.Node{Kind: api.KPlus})
		goto behind
	case p.take('?'):
		p.wrap(api.Node{Kind: api.KMaybe})
		goto behind
	case p.take('{'):
		if !p.times() {
			return api.BadRegex
		}
		goto behind
	case p.isOpen() && p.take(')'):
		p.leave()
		goto behind
	case p.take('|'):
		p.inner().split()
		goto begin
	case !p.isOpen() && p.at == len(p.s):
		return api.OK
	}
	goto begin
}

// isOpen tells whether a bracket is not closed yet.
func (p *parser) isOpen() bool {
	return len(p.levels) > 1
}

// leave closes a bracket: what stands in it is one of those around it.
func (p *parser) leave() {
	n := p.inner().whole()
	p.levels = p.levels[:len(p.levels)-1]
	p.put(n)
}

func (p *parser) put(n api.Node) {
	l := p.inner()
	l.join = append(l.join, n)
}

// wrap puts n, with what ended here in it, in that one's place.
func (p *parser) wrap(n api.Node) {
	join := p.inner().join
	last := &join[len(join)-1]
	n.L = []api.Node{*last}
	*last = n
}

// take goes past c, if it stands here.
func (p *parser) take(c byte) bool {
	if p.at == len(p.s) || p.s[p.at] != c {
		return false
	}
	p.at++
	return true
}

// single reads one that has no others in it.
func (p *parser) single() bool {
	n := api.Node{Kind: api.KSet}
	switch {
	case p.take('0'):
		n.Kind = api.KEmpty
	case p.take('_'):
		n.Kind = api.KNone
	case p.take('.'):
		n.Set = every
	case p.take('['):
		n.Set = p.class()
	default:
		n.Set = p.mode()
	}
	if !fits(n) { // no mode was read
		return false
	}
	p.put(n)
	return true
}

// mode takes a mode's sign, and tells the set of it alone; 0, if none stands here.
func (p *parser) mode() int {
	if p.at == len(p.s) {
		return 0
	}
	mode := strings.IndexByte(signs, p.s[p.at])
	if mode < 0 {
		return 0
	}
	p.at++
	return 1 << mode
}

// class reads, behind its `[`, the rest of a class; 0, if it is none.
func (p *parser) class() int {
	set := 0
	for one := p.mode(); one != 0; one = p.mode() {
		set |= one
	}
	if set == 0 || !p.take(']') {
		return 0
	}
	return set
}

// times reads, behind its `{`, how often what ended there stands. What is wrong with the digits is told of the `{`.
func (p *parser) times() bool {
	n := api.Node{Kind: api.KRepeat}
	brace := p.at - 1
	if !p.digit(&n.Lo, brace) || !p.take(',') || !p.digit(&n.Hi, brace) || !p.take('}') {
		return false
	}
	if !timesFit(n.Lo, n.Hi) {
		p.at = brace
		return false
	}
	p.wrap(n)
	return true
}

func (p *parser) digit(to *int, brace int) bool {
	if p.at == len(p.s) {
		return false
	}
	c := p.s[p.at]
	if c < '0' || c > '9' {
		p.at = brace
		return false
	}
	*to = int(c - '0')
	p.at++
	return true
}
