package walk

import (
	"pantile/api"
	"pantile/node"
	"pantile/zbits"
)

// behindAll is greater than any address.
const behindAll = 1 << api.MaxK

// guide goes down from node to node, and tells each one that is met, and the address at which it goes on there.
type guide struct {
	meet func(n *node.Node, addr int)
}

// down meets the nodes with kids that cover a point, from n down, and tells where that way ends: at the point's entry, or at a node that doesn't cover it; nil if none stands there.
func (g guide) down(n *node.Node, p []uint64) *node.Node {
again:
	if n.Level() < 0 || !n.Covers(p) {
		return n
	}
	addr, _ := zbits.Addr(p, n.Level())
	g.meet(n, addr)
	n = n.Kid(addr)
	goto again
}

// side tells where all entries of a node at which the way down to p ends are: -1 ahead of p, 1 behind it, 0 at it.
func side(n *node.Node, p []uint64) int {
	// The node doesn't cover p, so that they part above its level: all its entries are there as its prefix is.
	cmp, _ := zbits.Cmp(n.Prefix(), p)
	return cmp
}
