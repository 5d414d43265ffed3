package hier

import (
	"slices"

	"milestone/api"
)

// chart keeps one number for each From, To and Mode, or none: of the edge, or of the arc, that costs least there.
type chart struct {
	vertices int
	numbers  []int // by From, To, Mode
	cost     func(number int) int
}

func newChart(vertices int, cost func(number int) int) *chart {
	numbers := slices.Repeat([]int{none}, vertices*vertices*api.Modes)
	return &chart{vertices, numbers, cost}
}

func (c *chart) place(from, to, mode int) int {
	return (from*c.vertices+to)*api.Modes + mode
}

// out tells the number of what leads from v to another vertex.
func (c *chart) out(v, to, mode int) int {
	return c.numbers[c.place(v, to, mode)]
}

// in tells the number of what leads to v from another vertex.
func (c *chart) in(v, from, mode int) int {
	return c.numbers[c.place(from, v, mode)]
}

// lower puts a's number, if a costs less than what is there, or nothing is; it tells whether it did.
func (c *chart) lower(a api.Arc, number int) bool {
	at := c.place(a.From, a.To, a.Mode)
	if was := c.numbers[at]; was != none && c.cost(was) <= a.Cost {
		return false
	}
	c.numbers[at] = number
	return true
}
