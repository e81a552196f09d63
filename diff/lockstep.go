package diff

import (
	"pantile/api"
	"pantile/node"
	"pantile/zbits"
)

// behindAll is greater than any address.
const behindAll = 1 << api.MaxK

// lockstep goes through two nodes at once, address by address, in z-order, but not into what is the very same.
type lockstep struct {
	// tell is told what isn't alike: a node that only one of both has, beside nil, or entries of one point with unlike values. It tells whether to go on.
	tell func(x, y *node.Node) bool
}

// step is a pair of nodes at a level, and the address from which on it hasn't been gone through.
type step struct {
	x, y side
	next int
}

// side is one node of a pair.
type side struct {
	at *node.Node
	// kids tells whether they are what it has at the pair's level; else it stands there itself, at addr.
	kids bool
	addr int
}

// through goes through x and y, each of which may be nil, and tells how many pairs of nodes it looked at.
func (l lockstep) through(x, y *node.Node) int {
	var steps []step
	looked, top := 0, 0
	both, more := true, true
down:
	if x == y {
		goto next
	}
	if both {
		looked++
	}
	if x != nil && y != nil {
		if s, is := stepOf(x, y); is {
			steps = append(steps, s)
			goto next
		}
		// They are entries of one point: their sums are their values.
		if x.Sums() == y.Sums() {
			goto next
		}
	}
	if !l.tell(x, y) {
		return looked
	}
next:
	top = len(steps) - 1
	if top < 0 {
		return looked
	}
	if x, y, both, more = steps[top].on(); more {
		goto down
	}
	steps = steps[:top]
	goto next
}

// stepOf pairs two nodes at the level of the one that covers the other one's prefix, or where they part, if none does; false if they are entries of one point.
func stepOf(x, y *node.Node) (step, bool) {
	p, q := x.Prefix(), y.Prefix()
	level, _ := zbits.Part(p, q)
	level = max(level, x.Level(), y.Level())
	return step{x: sideOf(x, p, level), y: sideOf(y, q, level)}, level >= 0
}

// sideOf is a node, which has that prefix, at a level that is its own or a greater one.
func sideOf(n *node.Node, prefix []uint64, level int) side {
	addr, _ := zbits.Addr(prefix, level)
	return side{at: n, kids: n.Level() == level, addr: addr}
}

// on goes on to the next address at which there is something, and tells what each side has there, and whether both nodes have that address; more is false behind all of them.
func (s *step) on() (x, y *node.Node, both, more bool) {
	i, x := s.x.from(s.next)
	j, y := s.y.from(s.next)
	addr := min(i, j)
	if addr == behindAll {
		return nil, nil, false, false
	}
	if addr < i {
		x = nil
	}
	if addr < j {
		y = nil
	}
	s.next = addr + 1
	return x, y, s.x.has(addr) && s.y.has(addr), true
}

// from tells the least address from this one on at which there is something, and that; behindAll and nil, if there is nothing.
func (s side) from(addr int) (int, *node.Node) {
	at, n := s.addr, s.at
	if s.kids {
		at, n = s.at.From(addr)
	}
	if n == nil || at < addr {
		return behindAll, nil
	}
	return at, n
}

// has tells whether what is at an address, if anything, is below the node: what is beside it nobody has to look for there.
func (s side) has(addr int) bool {
	return s.kids || s.addr == addr
}
