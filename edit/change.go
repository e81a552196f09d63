package edit

import "pantile/api"

// thing is what a point has: a value, or nothing.
type thing struct {
	is bool
	v  uint64
}

// had tells what a change's point had ahead of it.
func had(c api.Change) thing {
	return thing{is: c.Had, v: c.Old}
}

// has tells what it has behind it.
func has(c api.Change) thing {
	return thing{is: c.Has, v: c.New}
}

// canBe tells whether a point can have it: nothing has no value.
func (x thing) canBe() bool {
	return x.is || x.v == 0
}

// isChange tells whether a change is from one thing to another one.
func isChange(c api.Change) bool {
	return had(c).canBe() && has(c).canBe() && had(c) != has(c)
}

// join tells what both do at their point, x ahead of y, false if y doesn't fit behind x; where only one is there, what that does.
func join(x, y *api.Change) (api.Change, bool) {
	if x == nil {
		return *y, true
	}
	if y == nil {
		return *x, true
	}
	both := api.Change{P: x.P, Had: x.Had, Old: x.Old, Has: y.Has, New: y.New}
	return both, has(*x) == had(*y)
}
