package window

import (
	"pantile/api"
	"pantile/mask"
	"pantile/node"
)

// guide goes through what of a node is in a box, from kid to kid, in z-order, and asks what becomes of each node that it meets.
type guide struct {
	box api.Box
	// in is told a node that has nothing but entries in the box, into which the guide doesn't go; it tells what becomes of that, nil of nothing, and whether to go on.
	in func(n *node.Node) (*node.Node, bool)
	// part is told any other node, behind those of its kids that may have entries in the box.
	part func(n *node.Node, kids []met) *node.Node
}

// met is a kid at an address, and what has become of it: itself, another node or nil.
type met struct {
	addr     int
	was, now *node.Node
}

// step is a node into which a guide has gone, and how far it has come there.
type step struct {
	at *node.Node
	// left are the addresses that the box leaves there, none of an entry.
	left mask.Mask
	// kid is the one to which it went last, at addr; that is -1 ahead of the first one.
	addr int
	kid  *node.Node
	kids []met
}

// through goes through a node, and tells what becomes of it; nil, if in had it stop.
func (g guide) through(n *node.Node) *node.Node {
	var steps []step
	var last *step
	on := true
down:
	whole, left := g.look(n)
	if whole {
		if n, on = g.in(n); !on {
			return nil
		}
		goto up
	}
	steps = append(steps, step{at: n, left: left, addr: -1})
next:
	last = &steps[len(steps)-1]
	if last.next() {
		n = last.kid
		goto down
	}
	n = g.part(last.at, last.kids)
	steps = steps[:len(steps)-1]
up:
	if len(steps) == 0 {
		return n
	}
	last = &steps[len(steps)-1]
	last.kids = append(last.kids, met{addr: last.addr, was: last.kid, now: n})
	goto next
}

// look tells whether all points that a node covers are in the box; if not, which addresses the box leaves there.
func (g guide) look(n *node.Node) (bool, mask.Mask) {
	prefix, level := n.Prefix(), n.Level()
	if whole, _ := mask.Whole(prefix, level, g.box); whole {
		return true, mask.Mask{}
	}
	// A nil node, which has no prefix, and an entry, whose level has no address, are refused: that leaves nothing, as it must be.
	left, _ := mask.Of(prefix, level, g.box)
	return false, left
}

// next goes to the next kid at an address that the box leaves, false if there is none.
func (s *step) next() bool {
again:
	addr, is := s.left.Next(s.addr)
	if !is {
		return false
	}
	// Kids and addresses may both be many: from one of them it goes on at the other one's next, not one by one.
	s.addr, s.kid = s.at.From(addr)
	if s.kid != nil && !s.left.Has(s.addr) {
		goto again
	}
	return s.kid != nil
}
