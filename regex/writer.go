package regex

import (
	"strconv"
	"strings"

	"milestone/api"
)

// writer gathers a text. Of its methods plain, loose and tight, which write a node each, the one that is right hangs on where the node stands.
type writer struct {
	strings.Builder
}

// plain writes a node where nothing is around it.
func (w *writer) plain(n api.Node) {
	switch n.Kind {
	case api.KSet:
		w.WriteString(setText(n.Set))
	case api.KEmpty:
		w.WriteString("0")
	case api.KNone:
		w.WriteString("_")
	case api.KUnion:
		w.row(n.L, w.loose, "|")
	case api.KJoin:
		w.row(n.L, w.tight, "")
	default:
		w.row(n.L, w.tight, "")
		w.WriteString(tail(n))
	}
}

// loose writes one of a union: only another union would run into it.
func (w *writer) loose(n api.Node) {
	if n.Kind == api.KUnion {
		w.bracketed(n)
		return
	}
	w.plain(n)
}

// tight writes what stands in anything else: of what is a row a sign behind it would take the last one alone.
func (w *writer) tight(n api.Node) {
	if n.Kind == api.KJoin {
		w.bracketed(n)
		return
	}
	w.loose(n)
}

func (w *writer) bracketed(n api.Node) {
	w.WriteByte('(')
	w.plain(n)
	w.WriteByte(')')
}

func (w *writer) row(parts []api.Node, write func(api.Node), between string) {
	for i, part := range parts {
		if i > 0 {
			w.WriteString(between)
		}
		write(part)
	}
}

// tail is the sign behind what n has in it.
func tail(n api.Node) string {
	switch n.Kind {
	case api.KStar:
		return "*"
	case api.KPlus:
		return "+"
	case api.KMaybe:
		return "?"
	}
	return "{" + strconv.Itoa(n.Lo) + "," + strconv.Itoa(n.Hi) + "}"
}

func setText(set int) string {
	if set == every {
		return "."
	}
	var row []byte
	for mode := range api.Modes {
		if set>>mode&1 == 1 {
			row = append(row, signs[mode])
		}
	}
	if len(row) == 1 {
		return string(row)
	}
	return "[" + string(row) + "]"
}
