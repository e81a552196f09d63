package rank

import (
	"slices"

	"pantile/node"
	"pantile/zbits"
)

// seam goes down where two nodes meet, all entries of the one ahead of all of the other one.
type seam struct {
	// meet is told each node that has kids of both, but for one, in whose place is what becomes of the two kids that meet there.
	meet func(n *node.Node)
}

// join tells the node of all entries of both, all of a ahead of all of b; nil has none.
func join(a, b *node.Node) *node.Node {
	if a == nil {
		return b
	}
	if b == nil {
		return a
	}
	var above []*node.Node
	n := seam{meet: func(n *node.Node) { above = append(above, n) }}.down(a, b)
	for _, up := range slices.Backward(above) {
		n, _ = up.With(n)
	}
	return n
}

// down tells what stands below the last node that is met.
func (s seam) down(a, b *node.Node) *node.Node {
again:
	n, last, first := over(a, b)
	if last == nil {
		return n
	}
	s.meet(n)
	a, b = last, first
	goto again
}

// over tells the node of the kids of both, each of them as its own kid where it stands below the other one, or beside it; and, where two of these meet at one address, both of them: the node has either one there.
func over(a, b *node.Node) (n, last, first *node.Node) {
	level, _ := zbits.Part(a.Prefix(), b.Prefix())
	if level > max(a.Level(), b.Level()) {
		n, _ = node.Pair(a, b)
		return n, nil, nil
	}
	if a.Level() > b.Level() {
		addr, _ := zbits.Addr(b.Prefix(), a.Level())
		if last = a.Kid(addr); last != nil {
			return a, last, b
		}
		n, _ = a.With(b)
		return n, nil, nil
	}
	if a.Level() < b.Level() {
		addr, _ := zbits.Addr(a.Prefix(), b.Level())
		if first = b.Kid(addr); first != nil {
			return b, a, first
		}
		n, _ = b.With(a)
		return n, nil, nil
	}
	n = together(a, b)
	at, last := a.UpTo(behindAll)
	if addr, first := b.From(0); addr == at {
		return n, last, first
	}
	return n, nil, nil
}

// together tells the node of the kids of two nodes of one level and prefix; where both have one at one address, of either one.
func together(a, b *node.Node) *node.Node {
	// Each kid that is put makes a node as large as that to which it is put.
	if len(a.Shape().Places) < len(b.Shape().Places) {
		a, b = b, a
	}
	for _, kid := range kids(b, 0, behindAll) {
		a, _ = a.With(kid)
	}
	return a
}
