package index

import "milestone/api"

// reader takes what writer puts, from the front. Once too few bytes are left for something it is short, and what it gives means nothing.
type reader struct {
	rest  []byte
	short bool
}

// take takes so many bytes, or none, if there are fewer.
func (r *reader) take(count int) []byte {
	if len(r.rest) < count {
		r.short = true
		return nil
	}
	taken := r.rest[:count]
	r.rest = r.rest[count:]
	return taken
}

// number reads a number of so many bytes. One of eight that no int holds turns out below 0, and no cost is.
func (r *reader) number(size int) int {
	n := 0
	for _, b := range r.take(size) {
		n = n<<8 | int(b)
	}
	return n
}

func (r *reader) four() int { return r.number(4) }

func (r *reader) eight() int { return r.number(8) }

func (r *reader) orNone() int { return r.four() - 1 }

func (r *reader) edge() api.Edge {
	return api.Edge{From: r.four(), To: r.four(), Mode: r.four(), Cost: r.four()}
}

func (r *reader) arc() api.Arc {
	return api.Arc{
		From: r.four(), To: r.four(), Mode: r.four(), Cost: r.eight(),
		Edge: r.orNone(), A: r.four(), B: r.four(),
	}
}

func (r *reader) row() []int { return many(r, r.four(), r.four) }

// many reads so many, each as read does. It ends as the bytes end: a count may say what it likes, and only what stands behind it takes memory.
func many[T any](r *reader, count int, read func() T) []T {
	var list []T
	for len(list) < count && !r.short {
		list = append(list, read())
	}
	return list
}
