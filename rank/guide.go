package rank

import (
	"iter"

	"pantile/api"
	"pantile/node"
	"pantile/zbits"
)

// behindAll is greater than any address.
const behindAll = 1 << api.MaxK

// guide goes down from node to node.
type guide struct {
	// turn is told each node with kids that is met, and tells at which address the way goes on there; false if it ends there.
	turn func(n *node.Node) (int, bool)
}

// step is a node on a way, and the address at which it goes on there.
type step struct {
	at   *node.Node
	addr int
}

// down goes down from n, and tells where that way ends; nil if none stands there.
func (g guide) down(n *node.Node) *node.Node {
again:
	if n.Level() < 0 {
		return n
	}
	addr, on := g.turn(n)
	if !on {
		return n
	}
	n = n.Kid(addr)
	goto again
}

// wayTo tells the way from n down to a point, and where it ends: at the point's entry, or at a node that doesn't cover it; nil if none stands there.
func wayTo(n *node.Node, p []uint64) (way []step, end *node.Node) {
	turn := func(at *node.Node) (int, bool) {
		if !at.Covers(p) {
			return 0, false
		}
		addr, _ := zbits.Addr(p, at.Level())
		way = append(way, step{at: at, addr: addr})
		return addr, true
	}
	end = guide{turn: turn}.down(n)
	return way, end
}

// kids goes through the kids of a node from an address on, up to, but without, another one, rising.
func kids(n *node.Node, from, to int) iter.Seq2[int, *node.Node] {
	return func(meet func(addr int, kid *node.Node) bool) {
		next := from
	again:
		addr, kid := n.From(next)
		if kid == nil || addr >= to || !meet(addr, kid) {
			return
		}
		next = addr + 1
		goto again
	}
}

// isAhead tells whether the node at which the way to a point ends is ahead of it, with all its entries.
func isAhead(end *node.Node, p []uint64) bool {
	// It doesn't cover the point, so that they part above its level: all its entries are there as its prefix is. Of nil nothing is ahead.
	cmp, _ := zbits.Cmp(end.Prefix(), p)
	return cmp < 0
}
