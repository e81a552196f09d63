package sets

import (
	"pantile/node"
	"pantile/tree"
)

// maker makes a tree of two.
type maker struct {
	// known tells whether what becomes of nodes that both have is known without going into them.
	known func(at pair) bool
	// alone tells what becomes of what one of both, or neither, has, of which the other one has nothing.
	alone func(at pair) *node.Node
	// both tells what becomes of nodes for which that is known, or of two entries of one point.
	both func(at pair) pair
}

// tree tells the tree that is made of two of one K; the very same one, if that has its root.
func (m maker) tree(a, b *tree.Tree) *tree.Tree {
	root := m.pair(pair{a.Root(), b.Root()})
	if root[inA] == a.Root() {
		return a
	}
	if root[inB] == b.Root() {
		return b
	}
	// A tree of a K that can't be has no entries, so that it was told above.
	t, _ := tree.Of(a.K(), root[inA])
	return t
}

// pair tells what becomes of two nodes, each of which may be nil.
func (m maker) pair(at pair) pair {
	// What became of places stands here, as long as their step isn't left.
	var made []pair
	l := lockstep{
		known: m.known,
		tell: func(at pair) bool {
			made = append(made, m.end(at))
			return true
		},
		leave: func(s *step) {
			first := len(made) - len(s.places)
			made = append(made[:first], s.join(made[first:]))
		},
	}
	l.through(at)
	return made[0]
}

// end tells what becomes of nodes that aren't gone into.
func (m maker) end(at pair) pair {
	if at.areBoth() {
		return m.both(at)
	}
	return twice(m.alone(at))
}
