package share

import "pantile/node"

// met is the nodes that were met, each once, however many trees have it.
type met struct {
	// sizes tells of each of them how many nodes there are from it down, itself among them, so that nobody need go into it again.
	sizes map[*node.Node]int
}

func newMet() met {
	return met{sizes: map[*node.Node]int{}}
}

// add meets n, which may be nil, and all nodes below it, and tells how many they are, met ahead or not.
func (m met) add(n *node.Node) int {
	if n == nil {
		return 0
	}
	if size, is := m.sizes[n]; is {
		return size
	}
	size := 1
	for addr, kid := n.From(0); kid != nil; addr, kid = n.From(addr + 1) {
		size += m.add(kid)
	}
	m.sizes[n] = size
	return size
}

// has tells whether a node was met.
func (m met) has(n *node.Node) bool {
	_, is := m.sizes[n]
	return is
}
