package rank

import (
	"slices"

	"pantile/node"
)

// part tells what of a step's node is ahead of where the way ends, and what isn't, when that has become of the kid at the step's address; nil where there is nothing.
func (s step) part(ahead, others *node.Node) (*node.Node, *node.Node) {
	places := s.at.Shape().Places
	first, there := slices.BinarySearch(places, s.addr)
	last := first
	if there {
		last++
	}
	if others == nil && last == len(places) {
		return s.at, nil
	}
	if ahead == nil && first == 0 {
		return nil, s.at
	}
	before := only(s.at, places[:first], places[first:])
	behind := only(s.at, places[last:], places[:last])
	return join(before, ahead), join(others, behind)
}

// only tells the node of those kids of a node that stay, at some of its addresses, without those that leave, at all others; nil if none stay.
func only(n *node.Node, stay, leave []int) *node.Node {
	// A kid that is taken away makes a node as large as this one, and has all sums asked anew; one that is joined makes one only as large as has been joined so far.
	if len(stay) < 3*len(leave) {
		var left *node.Node
		for _, addr := range stay {
			left = join(left, n.Kid(addr))
		}
		return left
	}
	for _, addr := range leave {
		n, _ = n.Without(addr)
	}
	return n
}
