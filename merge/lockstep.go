package merge

import "pantile/node"

// lockstep goes through nodes of the three at once, place by place, in z-order, but not into those where two are the very same.
type lockstep struct {
	// clash is told entries that clash, and tells what is there then.
	clash func(at trio) *node.Node
	// join is told a step behind its last place, and tells the node of what was merged.
	join func(s *step) *node.Node
}

// through tells the node of what is at each point.
func (l lockstep) through(at trio) *node.Node {
	var steps []*step
	var top *step
	var merged *node.Node
	is := false
down:
	if merged, is = becomes(at); is {
		goto up
	}
	if top = stepOf(at); top != nil {
		steps = append(steps, top)
		goto next
	}
	if merged, is = at.entry(); !is {
		merged = l.clash(at)
	}
up:
	if len(steps) == 0 {
		return merged
	}
	top = steps[len(steps)-1]
	top.merge(merged)
next:
	if at, is = top.on(); is {
		goto down
	}
	merged = l.join(top)
	steps = steps[:len(steps)-1]
	goto up
}
