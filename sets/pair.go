package sets

import "pantile/node"

// Where each of both stands in an array.
const (
	inA = iota
	inB
)

// pair is what both have at one place: a node, or nil for nothing. It is also what became of a place: nodes of the same entries, the first one A's own, if A has that node, the second one B's own, if B has.
type pair [2]*node.Node

// twice is what became of a place that neither of both, or just one, has like that.
func twice(n *node.Node) pair {
	return pair{n, n}
}

// same tells whether both have the very same there.
func (at pair) same() bool {
	return at[inA] == at[inB]
}

// areBoth tells whether both have something there.
func (at pair) areBoth() bool {
	return at[inA] != nil && at[inB] != nil
}

// couldBeIn tells whether A has no more there than B, as it must, if B has all of it.
func (at pair) couldBeIn() bool {
	return at[inA].Sums().Count <= at[inB].Sums().Count
}

// either tells what the one has that has something there.
func (at pair) either() *node.Node {
	if at[inA] != nil {
		return at[inA]
	}
	return at[inB]
}

// neither tells nothing.
func (at pair) neither() *node.Node {
	return nil
}

// inFirst tells what A has there.
func (at pair) inFirst() *node.Node {
	return at[inA]
}

// entry tells the entry with a value at the point of two entries.
func (at pair) entry(v uint64) pair {
	// The sums of an entry are its value.
	fits := [2]bool{at[inA].Sums().Sum == v, at[inB].Sums().Sum == v}
	if kept, is := at.kept(fits); is {
		return kept
	}
	n, _ := node.Leaf(at[inA].Prefix(), v)
	return twice(n)
}

// kept tells what became of a place as that of both which fits has it; false if neither fits.
func (at pair) kept(fits [2]bool) (pair, bool) {
	switch {
	case fits[inA] && fits[inB]:
		return at, true
	case fits[inA]:
		return twice(at[inA]), true
	case fits[inB]:
		return twice(at[inB]), true
	}
	return pair{}, false
}
