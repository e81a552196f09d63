package near

import (
	"pantile/node"
	"pantile/zbits"
)

// stand is a node, the first point in z-order that it covers, and the least distance to a point that it covers.
type stand struct {
	at    *node.Node
	first []uint64
	far   uint64
}

// queue is a heap: the nearest node comes first; of one distance that which is first in z-order.
type queue []stand

// Len tells how many nodes there are.
func (q queue) Len() int {
	return len(q)
}

// Less tells whether the node at i comes ahead of that at j.
func (q queue) Less(i, j int) bool {
	if q[i].far != q[j].far {
		return q[i].far < q[j].far
	}
	// All entries of the one node are ahead of all of the other one, as their first points are. So no entry comes out while a node may have one as near ahead of it in z-order.
	cmp, _ := zbits.Cmp(q[i].first, q[j].first)
	return cmp < 0
}

// Swap changes two places.
func (q queue) Swap(i, j int) {
	q[i], q[j] = q[j], q[i]
}

// Push puts a node behind the others.
func (q *queue) Push(x any) {
	s, _ := x.(stand)
	*q = append(*q, s)
}

// Pop takes away the last node, and tells it.
func (q *queue) Pop() any {
	last := len(*q) - 1
	s := (*q)[last]
	*q = (*q)[:last]
	return s
}
