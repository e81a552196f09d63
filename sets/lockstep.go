package sets

// lockstep goes through nodes of both at once, place by place, in z-order.
type lockstep struct {
	// known tells whether nodes that could be gone into needn't be.
	known func(at pair) bool
	// tell is told what isn't gone into: what is known, what one of both has alone, and two entries of one point. It tells whether to go on.
	tell func(at pair) bool
	// leave is told each step behind its last place; nil if nobody asks for that.
	leave func(s *step)
}

// through goes through two nodes, each of which may be nil.
func (l lockstep) through(at pair) {
	var steps []*step
	var top *step
	is := true
down:
	if top = stepOf(at); top != nil && !l.known(at) {
		steps = append(steps, top)
	} else if !l.tell(at) {
		return
	}
next:
	if len(steps) == 0 {
		return
	}
	top = steps[len(steps)-1]
	if at, is = top.on(); is {
		goto down
	}
	if l.leave != nil {
		l.leave(top)
	}
	steps = steps[:len(steps)-1]
	goto next
}
