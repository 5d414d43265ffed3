package index

import "milestone/api"

// writer puts numbers behind one another, the highest byte of each first.
type writer struct{ bytes []byte }

func (w *writer) four(n int) {
	w.bytes = append(w.bytes, byte(n>>24), byte(n>>16), byte(n>>8), byte(n))
}

func (w *writer) eight(n int) {
	w.four(n >> 32)
	w.four(n)
}

// orNone writes what may be -1, which has no bytes: each number as one more than it is.
func (w *writer) orNone(n int) {
	w.four(n + 1)
}

func (w *writer) edge(e api.Edge) {
	each([]int{e.From, e.To, e.Mode, e.Cost}, w.four)
}

func (w *writer) arc(a api.Arc) {
	each([]int{a.From, a.To, a.Mode}, w.four)
	w.eight(a.Cost)
	w.orNone(a.Edge)
	each([]int{a.A, a.B}, w.four)
}

func (w *writer) row(row []int) {
	w.four(len(row))
	each(row, w.four)
}

// each writes all of a list, each as write does.
func each[T any](list []T, write func(T)) {
	for _, one := range list {
		write(one)
	}
}
