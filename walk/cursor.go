package walk

import (
	"pantile/api"
	"pantile/node"
	"pantile/tree"
)

// Cursor stands in front of an entry of a tree, or behind all of them.
type Cursor struct {
	k    int
	root *node.Node
	// steps are the way from the root down to where it stands; there are none without entries. At the gap of each step but the last one is the next one's node.
	steps []step
}

// step is a node, and the gap at which the cursor stands there: behind the kids at lesser addresses, in front of the others. In front of an entry the gap is 0, behind it a greater one.
type step struct {
	at  *node.Node
	gap int
}

// New makes a cursor in front of the first entry, nil of a nil tree.
func New(t *tree.Tree) *Cursor {
	if t == nil {
		return nil
	}
	c := over(t.Root())
	c.k = t.K()
	return c
}

// Next goes behind the next entry, and tells it; false behind all of them.
func (c *Cursor) Next() (api.Entry, bool) {
again:
	last := c.last()
	if last == nil {
		return api.Entry{}, false
	}
	if last.at.Level() < 0 && last.gap == 0 {
		last.gap = behindAll
		return last.at.Entry()
	}
	if addr, kid := last.at.From(last.gap); kid != nil {
		last.gap = addr
		c.step(kid, 0)
		goto again
	}
	if c.up() {
		// It stands behind the kid from which it came.
		c.last().gap++
		goto again
	}
	return api.Entry{}, false
}

// Back goes in front of the entry behind which it stands, and tells it; false in front of all of them.
func (c *Cursor) Back() (api.Entry, bool) {
again:
	last := c.last()
	if last == nil {
		return api.Entry{}, false
	}
	if last.at.Level() < 0 && last.gap > 0 {
		last.gap = 0
		return last.at.Entry()
	}
	if addr, kid := last.at.UpTo(last.gap - 1); kid != nil {
		last.gap = addr
		c.step(kid, behindAll)
		goto again
	}
	if c.up() {
		goto again
	}
	return api.Entry{}, false
}

// Seek goes in front of the first entry that isn't ahead of a point.
func (c *Cursor) Seek(p []uint64) api.Code {
	if c == nil {
		return api.Nil
	}
	if !isPoint(p, c.k) {
		return api.Dim
	}
	c.steps = c.steps[:0]
	end := guide{meet: c.step}.down(c.root, p)
	if end == nil {
		return api.Fine
	}
	gap := 0
	if side(end, p) < 0 {
		gap = behindAll
	}
	c.step(end, gap)
	return api.Fine
}

// over makes a cursor in front of the first entry of a node.
func over(n *node.Node) *Cursor {
	c := &Cursor{k: n.K(), root: n}
	if n != nil {
		c.step(n, 0)
	}
	return c
}

// last is the last step, nil if there is none.
func (c *Cursor) last() *step {
	if c == nil || len(c.steps) == 0 {
		return nil
	}
	return &c.steps[len(c.steps)-1]
}

// step goes down to a node, and stands at a gap there.
func (c *Cursor) step(n *node.Node, gap int) {
	c.steps = append(c.steps, step{at: n, gap: gap})
}

// up goes back from the last step to that above it, false at the root.
func (c *Cursor) up() bool {
	if len(c.steps) < 2 {
		return false
	}
	c.steps = c.steps[:len(c.steps)-1]
	return true
}
