package window

import (
	"slices"

	"pantile/node"
)

// without tells a node with what has become of some of its kids, and all others as they are.
func without(n *node.Node, kids []met) *node.Node {
	kids = slices.DeleteFunc(kids, func(kid met) bool { return kid.now == kid.was })
	// Each kid that is put or taken away makes a node as large as this one: where most of them are others, those that are left are sooner joined anew.
	if 2*len(kids) > len(n.Shape().Places) {
		return joined(remaining(n, kids))
	}
	// At least half of the kids stay as they are: if one is left alone, it is so by the last step.
	for _, kid := range kids {
		if kid.now == nil {
			n, _ = n.Without(kid.addr)
		} else {
			n, _ = n.With(kid.now)
		}
	}
	return n
}

// with tells a node with what has become of some of its kids, and no others.
func with(n *node.Node, kids []met) *node.Node {
	var list []*node.Node
	var count uint64
	for _, kid := range kids {
		if kid.now != nil {
			list = append(list, kid.now)
			count += kid.now.Sums().Count
		}
	}
	// No kid has more entries than it had: as many are just those of the node.
	if count == n.Sums().Count {
		return n
	}
	return joined(list)
}

// remaining tells what is left of all kids of a node, by their addresses, when some have become others.
func remaining(n *node.Node, kids []met) []*node.Node {
	var list []*node.Node
	for _, addr := range n.Shape().Places {
		now := n.Kid(addr)
		if len(kids) > 0 && kids[0].addr == addr {
			now, kids = kids[0].now, kids[1:]
		}
		if now != nil {
			list = append(list, now)
		}
	}
	return list
}

// joined tells the node of some kids of one node: one alone is left as it is, none leave nil.
func joined(kids []*node.Node) *node.Node {
	var n *node.Node
	for i, kid := range kids {
		switch i {
		case 0:
			n = kid
		case 1:
			n, _ = node.Pair(n, kid)
		default:
			n, _ = n.With(kid)
		}
	}
	return n
}
