package hunt

import (
	"marquee/api"
)

// needle is one of the needles, by its number, and its places that are still to come, one at least.
type needle struct {
	which int
	at    []int
}

// hit is the first one of a needle's hits.
func (n needle) hit() api.Hit {
	return api.Hit{At: n.at[0], Which: n.which}
}

// queue is needles in a heap, the one of the next hit first.
type queue []needle

// Len is how many needles there are.
func (q queue) Len() int {
	return len(q)
}

// Less tells whether one needle's hit comes ahead of another one's.
func (q queue) Less(i, j int) bool {
	a, b := q[i].hit(), q[j].hit()
	return a.At < b.At || a.At == b.At && a.Which < b.Which
}

// Swap puts two needles in each other's place.
func (q queue) Swap(i, j int) {
	q[i], q[j] = q[j], q[i]
}

// Push puts a needle behind the others.
func (q *queue) Push(x any) {
	*q = append(*q, x.(needle))
}

// Pop takes the last needle away.
func (q *queue) Pop() any {
	last := len(*q) - 1
	x := (*q)[last]
	(*q)[last] = needle{} // its places aren't kept
	*q = (*q)[:last]
	return x
}
