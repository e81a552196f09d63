package bulk

import (
	"iter"
	"slices"

	"pantile/node"
	"pantile/tree"
	"pantile/zbits"
)

// edit is what a point is to have: a value, or nothing.
type edit struct {
	p  []uint64
	is bool
	v  uint64
}

// isOf tells whether the point is one of the tree's; a tree that no call made has none.
func (e edit) isOf(t *tree.Tree) bool {
	return zbits.Right(e.p) && len(e.p) == t.K()
}

// at tells what stands at the point then, where its entry n stands, nil for nothing.
func (e edit) at(n *node.Node) *node.Node {
	if !e.is {
		return nil
	}
	if old, is := n.Entry(); is && old.V == e.v {
		return n
	}
	entry, _ := node.Leaf(e.p, e.v)
	return entry
}

// inOrder puts edits in z-order, and keeps of those of one point the last one.
func inOrder(l []edit) []edit {
	cmp := func(x, y edit) int {
		order, _ := zbits.Cmp(x.p, y.p)
		return order
	}
	// The last ones are made the first ones, as these stay first when like ones are put in order, and are kept.
	slices.Reverse(l)
	slices.SortStableFunc(l, cmp)
	return slices.CompactFunc(l, func(x, y edit) bool { return cmp(x, y) == 0 })
}

// groups goes through edits that are in order, and part at a level or below, by their addresses there: rising, all of one address at once.
func groups(l []edit, level int) iter.Seq2[int, []edit] {
	return func(meet func(addr int, group []edit) bool) {
		for len(l) > 0 {
			addr, _ := zbits.Addr(l[0].p, level)
			end := slices.IndexFunc(l, func(e edit) bool {
				at, _ := zbits.Addr(e.p, level)
				return at != addr
			})
			if end < 0 {
				end = len(l)
			}
			if !meet(addr, l[:end]) {
				return
			}
			l = l[end:]
		}
	}
}
