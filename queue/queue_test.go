package queue_test

import (
	"math"
	"testing"

	"milestone/queue"
)

const most = 1000000

// pair is an id and its key.
type pair struct{ id, key int }

func checkPut(t *testing.T, q *queue.Queue, id, key int, want bool) {
	t.Helper()
	if q.Put(id, key) != want {
		t.Errorf("Put %d, %d: not %v", id, key, want)
	}
}

func checkPop(t *testing.T, q *queue.Queue, want pair) {
	t.Helper()
	if id, key, is := q.Pop(); !is || id != want.id || key != want.key {
		t.Errorf("Pop: %d, %d, %v, not %v", id, key, is, want)
	}
}

func checkPopNone(t *testing.T, q *queue.Queue) {
	t.Helper()
	if id, key, is := q.Pop(); is || id != 0 || key != 0 {
		t.Errorf("Pop of none: %d, %d, %v", id, key, is)
	}
}

func checkKey(t *testing.T, q *queue.Queue, id, want int) {
	t.Helper()
	if key, is := q.Key(id); !is || key != want {
		t.Errorf("Key %d: %d, %v, not %d", id, key, is, want)
	}
}

func checkNotThere(t *testing.T, q *queue.Queue, ids ...int) {
	t.Helper()
	for _, id := range ids {
		if key, is := q.Key(id); is || key != 0 {
			t.Errorf("Key %d, not there: %d, %v", id, key, is)
		}
	}
}

func checkLen(t *testing.T, q *queue.Queue, want int) {
	t.Helper()
	if q.Len() != want {
		t.Errorf("Len %d, not %d", q.Len(), want)
	}
}

// checkOut takes all out, in the order that is wanted, and asks Key and Len on the way.
func checkOut(t *testing.T, q *queue.Queue, want ...pair) {
	t.Helper()
	for i, p := range want {
		checkLen(t, q, len(want)-i)
		checkKey(t, q, p.id, p.key)
		checkPop(t, q, p)
		checkNotThere(t, q, p.id)
	}
	checkLen(t, q, 0)
	checkPopNone(t, q)
}

// noID are numbers that are none of a queue of n ids.
func noID(n int) []int {
	return []int{-1, -2, -n - 1, n, n + 1, 2*n + 64, most, most + 1, 1 << 31, 1 << 32, -1 << 31, -1 << 32, 1<<32 - 1, math.MaxInt, math.MinInt}
}

func checkNoIDs(t *testing.T, q *queue.Queue, ids ...int) {
	t.Helper()
	was := q.Len()
	for _, id := range ids {
		for _, key := range []int{0, 1, -1, math.MaxInt, math.MinInt} {
			checkPut(t, q, id, key, false)
		}
		checkNotThere(t, q, id)
	}
	checkLen(t, q, was)
}

func TestP301New(t *testing.T) {
	for _, n := range []int{0, 1, 2, 7, 1000, most - 1, most} {
		q := queue.New(n)
		checkLen(t, q, 0)
		checkPopNone(t, q)
		checkNotThere(t, q, 0, 1, n/2, n-2, n-1, n)
		checkLen(t, q, 0)
	}
}

func TestP301AllIDsFromZeroOn(t *testing.T) {
	for _, n := range []int{1, 2, 7, 1000} {
		q := queue.New(n)
		for id := range n {
			checkPut(t, q, id, -id, true)
			checkKey(t, q, id, -id)
			checkLen(t, q, id+1)
		}
		for id := n - 1; id >= 0; id-- {
			checkPop(t, q, pair{id, -id})
			checkLen(t, q, id)
		}
		checkPopNone(t, q)
	}
}

func TestP301WhatIsNoID(t *testing.T) {
	for _, n := range []int{1, 2, 7, 1000} {
		q := queue.New(n)
		checkNoIDs(t, q, noID(n)...)
		checkPopNone(t, q)
		checkPut(t, q, n-1, 3, true)
		checkNoIDs(t, q, noID(n)...)
		checkKey(t, q, n-1, 3)
		checkOut(t, q, pair{n - 1, 3})
	}
	checkNoIDs(t, queue.New(most), -1, most, most+1, math.MaxInt, math.MinInt)
}

func TestP301OfNoIDs(t *testing.T) {
	q := queue.New(0)
	checkNoIDs(t, q, noID(0)...)
	checkNoIDs(t, q, 0, 1, 5)
	checkPopNone(t, q)
}

// What New is handed may be out of bounds: it must end, and so must what is called on what it makes; clamped it is not.
func TestP301NewOutOfBounds(t *testing.T) {
	for _, n := range []int{-1, -2, -most, -1 << 31, -1 << 32, math.MinInt, most + 1, 1 << 31, 1 << 32, 1 << 48, 1 << 62, math.MaxInt} {
		q := queue.New(n)
		for _, id := range []int{-1, 0, 1, most - 1, most, n - 1, n, math.MaxInt, math.MinInt} {
			checkPut(t, q, id, 5, false)
			checkNotThere(t, q, id)
		}
		checkPopNone(t, q)
		checkLen(t, q, 0)
	}
}

func TestP301OneThatNewDidNotMake(t *testing.T) {
	var q queue.Queue
	checkNoIDs(t, &q, -1, 0, 1, math.MaxInt, math.MinInt)
	checkPopNone(t, &q)
}

func TestP301PutAgain(t *testing.T) {
	q := queue.New(3)
	checkPut(t, q, 1, 10, true)
	for _, x := range []struct {
		key  int
		want bool
		is   int
	}{
		{10, false, 10}, {11, false, 10}, {math.MaxInt, false, 10},
		{9, true, 9}, {9, false, 9}, {10, false, 9},
		{0, true, 0}, {0, false, 0}, {1, false, 0},
		{-1, true, -1}, {0, false, -1}, {-1, false, -1},
		{math.MinInt, true, math.MinInt}, {math.MinInt, false, math.MinInt}, {math.MaxInt, false, math.MinInt},
	} {
		checkPut(t, q, 1, x.key, x.want)
		checkKey(t, q, 1, x.is)
		checkLen(t, q, 1)
	}
	checkOut(t, q, pair{1, math.MinInt})
}

// A lesser key moves its id ahead, past those that were ahead of it, and no others.
func TestP301ALesserKeyGoesAhead(t *testing.T) {
	q := queue.New(8)
	for id := range 8 {
		checkPut(t, q, id, 10*id, true)
	}
	checkPut(t, q, 7, 35, true)
	checkPut(t, q, 5, -1, true)
	checkPut(t, q, 6, 20, true)
	checkPut(t, q, 1, 9, true)
	checkOut(t, q, pair{5, -1}, pair{0, 0}, pair{1, 9}, pair{2, 20}, pair{6, 20}, pair{3, 30}, pair{7, 35}, pair{4, 40})
}

// What Put refuses leaves all as it was, who is next too.
func TestP301WhatIsRefusedChangesNothing(t *testing.T) {
	q := queue.New(4)
	for id, key := range []int{8, 6, 4, 2} {
		checkPut(t, q, id, key, true)
	}
	for id, key := range []int{8, 7, math.MaxInt, 3} {
		checkPut(t, q, id, key, false)
		checkLen(t, q, 4)
	}
	checkNoIDs(t, q, noID(4)...)
	checkOut(t, q, pair{3, 2}, pair{2, 4}, pair{1, 6}, pair{0, 8})
}

// What was popped is not there, so that any key is taken: its old one, a lesser and a greater.
func TestP301PoppedAndPutAgain(t *testing.T) {
	for _, key := range []int{5, 4, 6, 0, math.MaxInt, math.MinInt} {
		q := queue.New(2)
		checkPut(t, q, 1, 5, true)
		checkPop(t, q, pair{1, 5})
		checkNotThere(t, q, 1)
		checkLen(t, q, 0)
		checkPut(t, q, 1, key, true)
		checkLen(t, q, 1)
		checkKey(t, q, 1, key)
		checkPut(t, q, 1, key, false)
		checkOut(t, q, pair{1, key})
	}
}

func TestP301PoppedAmongOthersAndPutAgain(t *testing.T) {
	q := queue.New(5)
	for id := range 5 {
		checkPut(t, q, id, id, true)
	}
	checkPop(t, q, pair{0, 0})
	checkPop(t, q, pair{1, 1})
	checkPut(t, q, 0, 3, true)
	checkPut(t, q, 1, 9, true)
	checkPut(t, q, 1, 4, true)
	checkOut(t, q, pair{2, 2}, pair{0, 3}, pair{3, 3}, pair{1, 4}, pair{4, 4})
}

func TestP301OfEqualKeysTheLeastID(t *testing.T) {
	for _, key := range []int{0, 7, -7, math.MaxInt, math.MinInt} {
		for _, ids := range [][]int{{0, 1, 2, 3, 4}, {4, 3, 2, 1, 0}, {2, 4, 0, 3, 1}, {3, 0, 4, 1, 2}} {
			q := queue.New(5)
			for _, id := range ids {
				checkPut(t, q, id, key, true)
			}
			checkOut(t, q, pair{0, key}, pair{1, key}, pair{2, key}, pair{3, key}, pair{4, key})
		}
	}
}

// An id that comes to have the key of others stands among them by its number, not by when it came.
func TestP301EqualByALesserKey(t *testing.T) {
	q := queue.New(4)
	checkPut(t, q, 0, 9, true)
	checkPut(t, q, 3, 9, true)
	checkPut(t, q, 1, 5, true)
	checkPut(t, q, 2, 5, true)
	checkPut(t, q, 3, 5, true)
	checkPut(t, q, 0, 5, true)
	checkOut(t, q, pair{0, 5}, pair{1, 5}, pair{2, 5}, pair{3, 5})
}

func TestP301GreatestAndLeastKeys(t *testing.T) {
	q := queue.New(7)
	for id, key := range []int{math.MaxInt, 1, math.MinInt, -1, math.MaxInt - 1, 0, math.MinInt + 1} {
		checkPut(t, q, id, key, true)
	}
	checkOut(t, q, pair{2, math.MinInt}, pair{6, math.MinInt + 1}, pair{3, -1}, pair{5, 0}, pair{1, 1}, pair{4, math.MaxInt - 1}, pair{0, math.MaxInt})
}

func TestP301WhereNoneIsThere(t *testing.T) {
	q := queue.New(3)
	for range 3 {
		for range 3 {
			checkPopNone(t, q)
			checkNotThere(t, q, 0, 1, 2)
			checkLen(t, q, 0)
		}
		checkPut(t, q, 2, 0, true)
		checkNotThere(t, q, 0, 1)
		checkOut(t, q, pair{2, 0})
	}
}

func TestP301TwoQueuesMixed(t *testing.T) {
	a, b := queue.New(3), queue.New(3)
	checkPut(t, a, 0, 5, true)
	checkNotThere(t, b, 0)
	checkLen(t, b, 0)
	checkPopNone(t, b)
	checkPut(t, b, 0, 7, true)
	checkPut(t, a, 1, 4, true)
	checkPut(t, b, 2, 4, true)
	checkPut(t, b, 0, 6, true)
	checkKey(t, a, 0, 5)
	checkKey(t, b, 0, 6)
	checkPop(t, a, pair{1, 4})
	checkLen(t, b, 2)
	checkPut(t, b, 1, 1, true)
	checkNotThere(t, a, 1, 2)
	checkOut(t, a, pair{0, 5})
	checkOut(t, b, pair{1, 1}, pair{2, 4}, pair{0, 6})
}

// model is a queue by its words alone: the keys of those that are there.
type model struct {
	n    int
	keys map[int]int
}

func (m model) put(id, key int) bool {
	was, there := m.keys[id]
	if id < 0 || id >= m.n || there && was <= key {
		return false
	}
	m.keys[id] = key
	return true
}

func (m model) pop() (next pair, is bool) {
	for id, key := range m.keys {
		if !is || key < next.key || key == next.key && id < next.id {
			next, is = pair{id, key}, true
		}
	}
	delete(m.keys, next.id)
	return next, is
}

// dice are the same numbers in each run.
type dice uint64

func (d *dice) below(n int) int {
	*d = *d*6364136223846793005 + 1442695040888963407
	return int(uint64(*d)>>33) % n
}

// step does one call that the dice choose on both, and asks all ids.
func step(t *testing.T, d *dice, q *queue.Queue, m model) {
	t.Helper()
	if d.below(3) > 0 {
		id, key := d.below(m.n+2)-1, d.below(12)-6
		checkPut(t, q, id, key, m.put(id, key))
	} else if next, is := m.pop(); is {
		checkPop(t, q, next)
	} else {
		checkPopNone(t, q)
	}
	checkLen(t, q, len(m.keys))
	for id := -1; id <= m.n; id++ {
		if key, is := m.keys[id]; is {
			checkKey(t, q, id, key)
		} else {
			checkNotThere(t, q, id)
		}
	}
}

// Many calls, by turns on two queues, answer what the words alone ask for; the same calls twice, the same twice.
func TestP301AsTheWordsSay(t *testing.T) {
	for range 2 {
		d := dice(301)
		for range 60 {
			var queues [2]*queue.Queue
			var models [2]model
			for i := range queues {
				n := d.below(14)
				queues[i], models[i] = queue.New(n), model{n, map[int]int{}}
			}
			for range 300 {
				i := d.below(2)
				step(t, &d, queues[i], models[i])
			}
		}
	}
}

// The largest queue, filled from behind with keys that come again and again, each made lesser once.
func TestP301TheLargest(t *testing.T) {
	q := queue.New(most)
	for id := most - 1; id >= 0; id-- {
		if !q.Put(id, 1000+id%1000) || !q.Put(id, id%1000) {
			t.Fatalf("Put %d", id)
		}
	}
	checkLen(t, q, most)
	checkKey(t, q, most-1, 999)
	for key := range 1000 {
		for id := key; id < most; id += 1000 {
			if got, of, is := q.Pop(); !is || got != id || of != key {
				t.Fatalf("Pop: %d, %d, %v, not %d, %d", got, of, is, id, key)
			}
		}
	}
	checkLen(t, q, 0)
	checkPopNone(t, q)
}
