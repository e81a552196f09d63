package near

import (
	"container/heap"

	"pantile/api"
	"pantile/box"
	"pantile/node"
)

// search goes from a node to its entries, the nearest to a point first.
type search struct {
	// queue has the nodes that are met next; no two of them have entries in common.
	queue
	p []uint64
	// most is the greatest distance at which anything is met.
	most uint64
	// meet is told each entry, and its distance; it tells whether to go on.
	meet func(entry api.Entry, far uint64) bool
}

// through meets the entries of n.
func (s *search) through(n *node.Node) {
	s.add(n)
next:
	if s.Len() == 0 {
		return
	}
	first, _ := heap.Pop(s).(stand)
	if entry, is := first.at.Entry(); is {
		if !s.meet(entry, first.far) {
			return
		}
		goto next
	}
	addr, kid := first.at.From(0)
beside:
	if kid == nil {
		goto next
	}
	s.add(kid)
	addr, kid = first.at.From(addr + 1)
	goto beside
}

// add puts a node into the queue, unless all points that it covers are too far.
func (s *search) add(n *node.Node) {
	if n == nil {
		return
	}
	// The cell of an entry is its point alone. Neither call refuses a node that has as many coordinates as p.
	cell, _ := box.Cell(n.Prefix(), n.Level())
	far, _ := box.FarBox(cell, s.p)
	if far <= s.most {
		heap.Push(s, stand{at: n, first: cell.Lo, far: far})
	}
}
