package sets

import (
	"pantile/api"
	"pantile/node"
	"pantile/zbits"
)

// behindAll is greater than any address.
const behindAll = 1 << api.MaxK

// step is a node of each of both at one level.
type step struct {
	sides [2]side
	// places are those to which it came so far.
	places []place
}

// side is one of these nodes.
type side struct {
	at *node.Node
	// kids tells whether they are what it has at the level; else it stands there itself, at addr.
	kids bool
	addr int
}

// place is an address at which one of both has something.
type place struct {
	addr int
	at   pair
}

// stepOf puts two nodes at the highest level at which they part, or have kids; nil, if one of them is nil, or both are entries of one point.
func stepOf(at pair) *step {
	if !at.areBoth() {
		return nil
	}
	p, q := at[inA].Prefix(), at[inB].Prefix()
	level, _ := zbits.Part(p, q)
	level = max(level, at[inA].Level(), at[inB].Level())
	if level < 0 {
		return nil
	}
	return &step{sides: [...]side{sideOf(at[inA], p, level), sideOf(at[inB], q, level)}}
}

// sideOf puts a node, which has that prefix, at a level that isn't below its own.
func sideOf(n *node.Node, prefix []uint64, level int) side {
	addr, _ := zbits.Addr(prefix, level)
	return side{at: n, kids: n.Level() == level, addr: addr}
}

// on goes to the next place, and tells what both have there; false behind the last one.
func (s *step) on() (pair, bool) {
	next := 0
	if last := len(s.places) - 1; last >= 0 {
		next = s.places[last].addr + 1
	}
	i, x := s.sides[inA].from(next)
	j, y := s.sides[inB].from(next)
	here := place{addr: min(i, j)}
	if here.addr == behindAll {
		return pair{}, false
	}
	if here.addr == i {
		here.at[inA] = x
	}
	if here.addr == j {
		here.at[inB] = y
	}
	s.places = append(s.places, here)
	return here.at, true
}

// from tells the least address from this one on at which there is something, and that; behindAll and nil, if there is nothing.
func (s side) from(addr int) (int, *node.Node) {
	at, n := s.addr, s.at
	if s.kids {
		at, n = s.at.From(addr)
	}
	if n == nil || at < addr {
		return behindAll, nil
	}
	return at, n
}
