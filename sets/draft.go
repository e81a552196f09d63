package sets

import "pantile/node"

// draft is a node, or nil, and the edits by which it becomes the one that is asked for.
type draft struct {
	from  *node.Node
	edits []edit
}

// edit is what was at an address, and what is to be there.
type edit struct {
	addr    int
	was, is *node.Node
}

// join tells what became of the step's nodes, when that has become of its places.
func (s *step) join(made []pair) pair {
	drafts := [...]draft{s.draft(inA, made), s.draft(inB, made)}
	fits := [2]bool{len(drafts[inA].edits) == 0, len(drafts[inB].edits) == 0}
	if kept, is := (pair{drafts[inA].from, drafts[inB].from}).kept(fits); is {
		return kept
	}
	best := s.anew(made)
	for _, d := range drafts {
		if d.cost() < best.cost() {
			best = d
		}
	}
	return twice(best.node())
}

// draft starts from the node of one of both.
func (s *step) draft(side int, made []pair) draft {
	d := draft{from: s.sides[side].at}
	for i, p := range s.places {
		if p.at[side] != made[i][side] {
			d.edits = append(d.edits, edit{addr: p.addr, was: p.at[side], is: made[i][side]})
		}
	}
	return d
}

// anew starts from nothing.
func (s *step) anew(made []pair) draft {
	var d draft
	for i, p := range s.places {
		if made[i][inA] != nil {
			d.edits = append(d.edits, edit{addr: p.addr, is: made[i][inA]})
		}
	}
	return d
}

// cost tells how much there is to do.
func (d draft) cost() int {
	cost := 0
	for _, e := range d.edits {
		cost++
		if e.was != nil {
			// The sums of all kids are asked anew.
			cost += 2
		}
	}
	return cost
}

// node does the edits.
func (d draft) node() *node.Node {
	n := d.from
	// What costs less than to start from nothing keeps more kids than it loses: no kid is left alone, and what stands there itself stays.
	for _, e := range d.edits {
		if e.is == nil {
			n, _ = n.Without(e.addr)
		} else {
			n = with(n, e.is)
		}
	}
	return n
}

// with tells the node of n, which may be nil, with another one as its kid, or beside it where it doesn't cover that.
func with(n, kid *node.Node) *node.Node {
	switch {
	case n == nil:
		return kid
	case n.Covers(kid.Prefix()):
		n, _ = n.With(kid)
	default:
		n, _ = node.Pair(n, kid)
	}
	return n
}
