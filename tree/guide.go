package tree

import (
	"pantile/node"
	"pantile/zbits"
)

// guide goes from node to node, and tells each one that is met.
type guide struct {
	meet func(n *node.Node)
}

// stand is a node, and the address from which on its kids haven't been met.
type stand struct {
	at   *node.Node
	next int
}

// down meets the nodes that cover a point, from n down, and tells the first one on that way that doesn't cover it, nil if there is none.
func (g guide) down(n *node.Node, p []uint64) *node.Node {
again:
	if !n.Covers(p) {
		return n
	}
	g.meet(n)
	// An entry's level has no address: the 0 that is told instead has no kid there either.
	addr, _ := zbits.Addr(p, n.Level())
	n = n.Kid(addr)
	goto again
}

// through meets n and all nodes below it, each ahead of its kids, these by their addresses.
func (g guide) through(n *node.Node) {
	if n == nil {
		return
	}
	g.meet(n)
	stack := []stand{{at: n}}
again:
	top := len(stack) - 1
	if top < 0 {
		return
	}
	addr, kid := stack[top].at.From(stack[top].next)
	if kid == nil {
		stack = stack[:top]
		goto again
	}
	g.meet(kid)
	stack[top].next = addr + 1
	stack = append(stack, stand{at: kid})
	goto again
}
