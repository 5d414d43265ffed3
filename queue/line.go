package queue

// entry is an id that is there, and its key.
type entry struct{ id, key int }

func (e entry) byKey() int { return e.key }

func (e entry) byID() int { return e.id }

// order tells whether a goes before b.
type order interface {
	before(a, b entry) bool
}

// rising is the order by numbers of the entries, the least first: each number decides where those ahead of it are equal.
type rising []func(entry) int

func (r rising) before(a, b entry) bool {
	for _, number := range r {
		if x, y := number(a), number(b); x != y {
			return x < y
		}
	}
	return false
}

// line is those that are there, as a container/heap. It knows where each of them stands, so that a key is told, and a lesser one put, without a search.
type line struct {
	order   order
	entries []entry
	places  []int // of each id, where it stands in entries, from 1 on; 0: it is not there
}

// mayHold tells whether id is one of the line's ids, there or not.
func (l *line) mayHold(id int) bool {
	return id >= 0 && id < len(l.places)
}

// find tells where id stands in entries.
func (l *line) find(id int) (place int, is bool) {
	if !l.mayHold(id) || l.places[id] == 0 {
		return 0, false
	}
	return l.places[id] - 1, true
}

// The rest is what container/heap calls.

func (l *line) Len() int {
	return len(l.entries)
}

func (l *line) Less(i, j int) bool {
	return l.order.before(l.entries[i], l.entries[j])
}

func (l *line) Swap(i, j int) {
	l.entries[i], l.entries[j] = l.entries[j], l.entries[i]
	l.places[l.entries[i].id] = i + 1
	l.places[l.entries[j].id] = j + 1
}

func (l *line) Push(x any) {
	e := x.(entry)
	l.entries = append(l.entries, e)
	l.places[e.id] = len(l.entries)
}

func (l *line) Pop() any {
	last := len(l.entries) - 1
	e := l.entries[last]
	l.entries = l.entries[:last]
	l.places[e.id] = 0
	return e
}
