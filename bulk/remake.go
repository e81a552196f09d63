package bulk

import (
	"iter"
	"slices"

	"pantile/api"
	"pantile/node"
	"pantile/zbits"
)

const (
	// behindAll is greater than any address.
	behindAll = 1 << api.MaxK
	// dear is how many kids of a node can be joined anew at the cost of one that is lost: for that one all kids are copied, listed and asked for their sums, while each that is joined copies half of them on the average.
	dear = 6
)

// place is an address, what stood there, and what stands there now; nil for nothing.
type place struct {
	addr     int
	was, now *node.Node
}

// edited tells what becomes of a node by edits that are in order, of unlike points; nil has no entries.
func edited(n *node.Node, l []edit) *node.Node {
	for n == nil && len(l) > 0 {
		n, l = l[0].at(nil), l[1:]
	}
	if len(l) == 0 {
		return n
	}
	level := levelOf(n, l)
	if level < 0 {
		return l[0].at(n)
	}
	if level > n.Level() {
		return above(n, level, l)
	}
	var places []place
	for addr, group := range groups(l, level) {
		kid := n.Kid(addr)
		places = append(places, place{addr: addr, was: kid, now: edited(kid, group)})
	}
	return remade(n, places)
}

// levelOf tells the highest level at which a node has kids, or parts from the point of an edit; -1, if it is the entry of the only one.
func levelOf(n *node.Node, l []edit) int {
	prefix := n.Prefix()
	// Edits that part from each other do so no higher than one of the outermost two from the node.
	first, _ := zbits.Part(prefix, l[0].p)
	last, _ := zbits.Part(prefix, l[len(l)-1].p)
	return max(n.Level(), first, last)
}

// above tells what becomes of a node by edits from which it parts at a level above its own: it stands there itself at one address.
func above(n *node.Node, level int, l []edit) *node.Node {
	var beside []*node.Node
	own, _ := zbits.Addr(n.Prefix(), level)
	for addr, group := range groups(l, level) {
		if addr == own {
			n = edited(n, group)
		} else {
			beside = append(beside, edited(nil, group))
		}
	}
	return joined(append(beside, n))
}

// through tells what becomes of a node when it is known what becomes of some nodes, all entries among them; nil has none.
func through(n *node.Node, known func(n *node.Node) (*node.Node, bool)) *node.Node {
	if n == nil {
		return nil
	}
	if now, is := known(n); is {
		return now
	}
	var places []place
	for addr, kid := range kids(n, 0, behindAll) {
		places = append(places, place{addr: addr, was: kid, now: through(kid, known)})
	}
	return remade(n, places)
}

// remade tells a node with what stands at some places now, these rising, and with all other kids as they are.
func remade(n *node.Node, places []place) *node.Node {
	places = slices.DeleteFunc(places, func(x place) bool { return x.now == x.was })
	lost := 0
	for _, x := range places {
		if x.was != nil {
			lost++
		}
	}
	if dear*lost > len(n.Shape().Places) {
		return joined(standing(n, places))
	}
	// Most kids stay, if any is lost: none of them is left alone.
	for _, x := range places {
		if x.now == nil {
			n, _ = n.Without(x.addr)
		} else {
			n, _ = n.With(x.now)
		}
	}
	return n
}

// standing tells what stands at all addresses of a node when that stands at some places, nil among it.
func standing(n *node.Node, places []place) []*node.Node {
	var list []*node.Node
	next := 0
	for _, x := range places {
		for _, kid := range kids(n, next, x.addr) {
			list = append(list, kid)
		}
		list = append(list, x.now)
		next = x.addr + 1
	}
	for _, kid := range kids(n, next, behindAll) {
		list = append(list, kid)
	}
	return list
}

// kids goes through the kids of a node from an address on, up to, but without, another one, rising.
func kids(n *node.Node, from, to int) iter.Seq2[int, *node.Node] {
	return func(meet func(addr int, kid *node.Node) bool) {
		for addr, kid := n.From(from); kid != nil && addr < to; addr, kid = n.From(addr + 1) {
			if !meet(addr, kid) {
				return
			}
		}
	}
}

// joined tells the node of nodes that part at one level: one alone is left as it is, none leave nil.
func joined(nodes []*node.Node) *node.Node {
	nodes = slices.DeleteFunc(nodes, func(n *node.Node) bool { return n == nil })
	var n *node.Node
	for i, kid := range nodes {
		switch i {
		case 0:
			n = kid
		case 1:
			n, _ = node.Pair(n, kid)
		default:
			n, _ = n.With(kid)
		}
	}
	return n
}
