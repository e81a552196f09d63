package merge

import (
	"pantile/api"
	"pantile/node"
	"pantile/zbits"
)

// behindAll is greater than any address.
const behindAll = 1 << api.MaxK

// step is nodes of the three at one level.
type step struct {
	sides [3]side
	// places are those to which it came so far.
	places []place
}

// side is one of these nodes, nil if nothing is there.
type side struct {
	at *node.Node
	// kids tells whether they are what it has at the level; else it stands there itself, at addr.
	kids bool
	addr int
}

// place is an address at which one of the three has something, and what became of that.
type place struct {
	addr   int
	at     trio
	merged *node.Node
}

// stepOf puts nodes at the highest level at which they part, or have kids; nil, if all are entries of one point.
func stepOf(at trio) *step {
	level := levelOf(at[:]...)
	if level < 0 {
		return nil
	}
	s := &step{}
	for i, n := range at {
		s.sides[i] = sideOf(n, level)
	}
	return s
}

// levelOf tells the highest level at which some nodes part, or have kids; -1, if there is none.
func levelOf(nodes ...*node.Node) int {
	level := -1
	var first []uint64
	for _, n := range nodes {
		prefix := n.Prefix()
		if first == nil {
			first = prefix
		}
		// Two that part have unlike addresses there, so that one of them parts there from the first one, too.
		if parted, code := zbits.Part(first, prefix); code == api.Fine {
			level = max(level, parted, n.Level())
		}
	}
	return level
}

// sideOf puts a node at a level that isn't below its own.
func sideOf(n *node.Node, level int) side {
	if n.Level() == level {
		return side{at: n, kids: true}
	}
	addr, _ := zbits.Addr(n.Prefix(), level)
	return side{at: n, addr: addr}
}

// on goes to the next place, and tells what the three have there; false behind the last one.
func (s *step) on() (trio, bool) {
	next := 0
	if last := len(s.places) - 1; last >= 0 {
		next = s.places[last].addr + 1
	}
	here := place{addr: behindAll}
	for i, side := range s.sides {
		addr, n := side.from(next)
		if addr < here.addr {
			here = place{addr: addr}
		}
		if addr == here.addr {
			here.at[i] = n
		}
	}
	if here.addr == behindAll {
		return trio{}, false
	}
	s.places = append(s.places, here)
	return here.at, true
}

// from tells the least address from this one on at which there is something, and that; behindAll and nil, if there is nothing.
func (s side) from(addr int) (int, *node.Node) {
	at, n := s.addr, s.at
	if s.kids {
		at, n = s.at.From(addr)
	}
	if n == nil || at < addr {
		return behindAll, nil
	}
	return at, n
}

// merge takes what became of the place to which it came last.
func (s *step) merge(n *node.Node) {
	s.places[len(s.places)-1].merged = n
}

// node tells the node of what was merged, made of that one of the three, or of nothing, which needs the fewest edits.
func (s *step) node() *node.Node {
	var n *node.Node
	edits := s.edits(func(place) *node.Node { return nil })
	for i, side := range s.sides {
		if l := s.edits(func(p place) *node.Node { return p.at[i] }); len(l) < len(edits) {
			n, edits = side.at, l
		}
	}
	// One that needs fewer than nothing does keeps more kids than it loses: no kid is left alone, and what stands there itself stays.
	for _, p := range edits {
		if p.merged == nil {
			n, _ = n.Without(p.addr)
		} else {
			n = with(n, p.merged)
		}
	}
	return n
}

// edits tells the places at which something else was merged than what was there.
func (s *step) edits(was func(p place) *node.Node) []place {
	var list []place
	for _, p := range s.places {
		if was(p) != p.merged {
			list = append(list, p)
		}
	}
	return list
}

// with tells the node of n, which may be nil, with another one as its kid, or beside it where it doesn't cover that.
func with(n, kid *node.Node) *node.Node {
	switch {
	case n == nil:
		return kid
	case n.Covers(kid.Prefix()):
		n, _ = n.With(kid)
	default:
		n, _ = node.Pair(n, kid)
	}
	return n
}
