package merge

import (
	"pantile/api"
	"pantile/node"
)

// Where each of the three stands in an array.
const (
	inO = iota
	inA
	inB
)

// trio is what the three have at one place: a node, or nil for nothing.
type trio [3]*node.Node

// becomes tells what is at a point from what the three have there, and at a whole place likewise; false, if that doesn't tell it.
func becomes[T comparable](has [3]T) (T, bool) {
	switch {
	case has[inA] == has[inB]:
		return has[inA], true
	case has[inA] == has[inO]:
		return has[inB], true
	case has[inB] == has[inO]:
		return has[inA], true
	}
	var none T
	return none, false
}

// entry tells what is at a point, of which each of the three has the entry or nothing; false, if they clash.
func (at trio) entry() (*node.Node, bool) {
	// The sums of an entry are one value, those of nothing are none: by them entries that were made apart are the same.
	sums, is := becomes([...]api.Sums{at[inO].Sums(), at[inA].Sums(), at[inB].Sums()})
	if !is {
		return nil, false
	}
	if sums == at[inA].Sums() {
		return at[inA], true
	}
	return at[inB], true
}

// clash tells the clash of entries.
func (at trio) clash() api.Clash {
	o, isInO := at[inO].Entry()
	a, isInA := at[inA].Entry()
	b, isInB := at[inB].Entry()
	// A and B aren't the same there, so that one of them has an entry.
	p := a.P
	if !isInA {
		p = b.P
	}
	return api.Clash{P: p, InO: isInO, InA: isInA, InB: isInB, O: o.V, A: a.V, B: b.V}
}

// by tells what entries that clash are by a rule.
func (at trio) by(rule int) *node.Node {
	switch rule {
	case Ours:
		return at[inA]
	case Theirs:
		return at[inB]
	case Base:
		return at[inO]
	case Greater:
		return greatest(at[inA], at[inB])
	}
	return nil
}

// greatest tells the one of some entries that has the greatest value; nil ones have none, not even 0.
func greatest(entries ...*node.Node) *node.Node {
	var top *node.Node
	for _, n := range entries {
		if top == nil || n != nil && n.Sums().Max > top.Sums().Max {
			top = n
		}
	}
	return top
}
