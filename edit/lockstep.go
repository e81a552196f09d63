package edit

import (
	"pantile/api"
	"pantile/zbits"
)

// lockstep goes through two lists of one K at once, point by point, in z-order.
type lockstep struct {
	// meet is told what both lists have at a point, nil for the one that has nothing there. It tells whether to go on.
	meet func(x, y *api.Change) bool
}

// through tells whether it came to the end of both.
func (l lockstep) through(a, b []api.Change) bool {
	var x, y *api.Change
next:
	x, y = firsts(a, b)
	if x == nil && y == nil {
		return true
	}
	if !l.meet(x, y) {
		return false
	}
	if x != nil {
		a = a[1:]
	}
	if y != nil {
		b = b[1:]
	}
	goto next
}

// firsts tells what both lists have at the first point of all; nil for the one that has nothing there.
func firsts(a, b []api.Change) (x, y *api.Change) {
	if len(a) > 0 && (len(b) == 0 || !isAhead(b[0].P, a[0].P)) {
		x = &a[0]
	}
	if len(b) > 0 && (len(a) == 0 || !isAhead(a[0].P, b[0].P)) {
		y = &b[0]
	}
	return x, y
}

// isAhead tells whether p comes ahead of q in the z-order; both are points with as many coordinates.
func isAhead(p, q []uint64) bool {
	cmp, _ := zbits.Cmp(p, q)
	return cmp < 0
}
