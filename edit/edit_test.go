package edit

import (
	"fmt"
	"math"
	"reflect"
	"slices"
	"testing"

	"pantile/api"
	"pantile/diff"
	"pantile/node"
	"pantile/tree"
	"pantile/walk"
)

// chance makes numbers that look like chance, and are the same in each run.
type chance uint64

func (n *chance) below(most int) int {
	*n = *n*6364136223846793005 + 1442695040888963407
	return int(uint64(*n)>>33) % most
}

// point is a point whose bits above a level are those of all others.
func (n *chance) point(k, level int) []uint64 {
	p := all(k, 0xA5A5A5A5A5A5A5A5)
	for i := range p {
		for range 1 + n.below(2) {
			p[i] ^= 1 << n.below(level+1)
		}
	}
	return p
}

// value is one of few values, 0 often, or a great one.
func (n *chance) value() uint64 {
	if n.below(3) > 0 {
		return uint64(n.below(3))
	}
	return math.MaxUint64 - uint64(n.below(3))
}

// entries are up to most entries with unlike points, that part at a level, or below, in z-order.
func (n *chance) entries(k, level, most int) []api.Entry {
	var l []api.Entry
	for range most {
		l = append(l, at(n.value(), n.point(k, level)...))
	}
	return inOrder(l)
}

// otherThan is a value that isn't v.
func (n *chance) otherThan(v uint64) uint64 {
	for {
		if w := n.value(); w != v {
			return w
		}
	}
}

// changes are a list that fits some entries: at some of their points, and at some others, up to most.
func (n *chance) changes(k, level, most int, l []api.Entry) []api.Change {
	var out []api.Change
	for _, entry := range l {
		switch n.below(4) {
		case 0:
			out = append(out, gone(entry.V, entry.P...))
		case 1:
			out = append(out, other(entry.V, n.otherThan(entry.V), entry.P...))
		}
	}
	for range n.below(most + 1) {
		if p := n.point(k, level); !hasPoint(l, p) {
			out = append(out, fresh(n.value(), p...))
		}
	}
	slices.SortStableFunc(out, func(x, y api.Change) int { return plainCmp(x.P, y.P) })
	return slices.CompactFunc(out, func(x, y api.Change) bool { return slices.Equal(x.P, y.P) })
}

// at is an entry.
func at(v uint64, p ...uint64) api.Entry {
	return api.Entry{P: p, V: v}
}

// fresh is a change from nothing to a value.
func fresh(v uint64, p ...uint64) api.Change {
	return api.Change{P: p, Has: true, New: v}
}

// gone is a change from a value to nothing.
func gone(v uint64, p ...uint64) api.Change {
	return api.Change{P: p, Had: true, Old: v}
}

// other is a change from a value to a value.
func other(v, w uint64, p ...uint64) api.Change {
	return api.Change{P: p, Had: true, Old: v, Has: true, New: w}
}

// all has the same coordinate K times.
func all(k int, c uint64) []uint64 {
	return slices.Repeat([]uint64{c}, k)
}

// Plain readings: bit by bit, point by point, as the chapter says it.

// plainCmp goes down from the highest level to the first one at which the addresses aren't the same.
func plainCmp(p, q []uint64) int {
	for level := 63; level >= 0; level-- {
		for i, c := range p {
			if a, b := c/(1<<level)%2, q[i]/(1<<level)%2; a != b {
				return int(a) - int(b)
			}
		}
	}
	return 0
}

// inOrder are the entries in z-order, one of each point.
func inOrder(l []api.Entry) []api.Entry {
	l = slices.Clone(l)
	slices.SortStableFunc(l, func(x, y api.Entry) int { return plainCmp(x.P, y.P) })
	return slices.CompactFunc(l, func(x, y api.Entry) bool { return slices.Equal(x.P, y.P) })
}

func hasPoint(l []api.Entry, p []uint64) bool {
	_, is := plainFind(l, p)
	return is
}

// plainFind tells a point's value, as it stands in a list.
func plainFind(l []api.Entry, p []uint64) (uint64, bool) {
	for _, entry := range l {
		if slices.Equal(entry.P, p) {
			return entry.V, true
		}
	}
	return 0, false
}

// changeAt tells what a list does at a point.
func changeAt(l []api.Change, p []uint64) (api.Change, bool) {
	i := slices.IndexFunc(l, func(c api.Change) bool { return slices.Equal(c.P, p) })
	if i < 0 {
		return api.Change{}, false
	}
	return l[i], true
}

// plainRight is what the chapter says of a list, word by word.
func plainRight(k int, l []api.Change) bool {
	if k < 1 || k > 16 {
		return false
	}
	for i, c := range l {
		if len(c.P) != k || !c.Had && !c.Has || c.Had && c.Has && c.Old == c.New {
			return false
		}
		if !c.Had && c.Old != 0 || !c.Has && c.New != 0 {
			return false
		}
		if i > 0 && plainCmp(l[i-1].P, c.P) >= 0 {
			return false
		}
	}
	return true
}

// plainFits asks the entries for each change's point.
func plainFits(l []api.Entry, changes []api.Change) bool {
	for _, c := range changes {
		if v, is := plainFind(l, c.P); is != c.Had || v != c.Old {
			return false
		}
	}
	return true
}

// plainDone is the list on which the changes are done.
func plainDone(l []api.Entry, changes []api.Change) []api.Entry {
	var out []api.Entry
	for _, c := range changes {
		if c.Has {
			out = append(out, at(c.New, c.P...))
		}
	}
	for _, entry := range l {
		if _, is := changeAt(changes, entry.P); !is {
			out = append(out, entry)
		}
	}
	return inOrder(out)
}

// plainUndo are the changes the other way round.
func plainUndo(l []api.Change) []api.Change {
	var out []api.Change
	for _, c := range l {
		c.Had, c.Old, c.Has, c.New = c.Has, c.New, c.Had, c.Old
		out = append(out, c)
	}
	return out
}

// plainThen asks both lists for each of their points; false, if they don't fit.
func plainThen(a, b []api.Change) ([]api.Change, bool) {
	var out []api.Change
	for _, x := range a {
		y, is := changeAt(b, x.P)
		if !is {
			y = x
		} else if y.Had != x.Has || y.Old != x.New {
			return nil, false
		}
		c := api.Change{P: x.P, Had: x.Had, Old: x.Old, Has: y.Has, New: y.New}
		if c.Had != c.Has || c.Old != c.New {
			out = append(out, c)
		}
	}
	for _, y := range b {
		if _, is := changeAt(a, y.P); !is {
			out = append(out, y)
		}
	}
	slices.SortFunc(out, func(x, y api.Change) int { return plainCmp(x.P, y.P) })
	return out, true
}

// plainApart asks the one list for each point of the other one.
func plainApart(a, b []api.Change) bool {
	for _, x := range a {
		if _, is := changeAt(b, x.P); is {
			return false
		}
	}
	return true
}

func sameEntry(x, y api.Entry) bool {
	return x.V == y.V && slices.Equal(x.P, y.P)
}

func sameEntries(x, y []api.Entry) bool {
	return slices.EqualFunc(x, y, sameEntry)
}

func sameChange(x, y api.Change) bool {
	return slices.Equal(x.P, y.P) && x.Had == y.Had && x.Has == y.Has && x.Old == y.Old && x.New == y.New
}

func sameChanges(x, y []api.Change) bool {
	return slices.EqualFunc(x, y, sameChange)
}

// copied is a list that shares nothing with l.
func copied(l []api.Change) []api.Change {
	out := slices.Clone(l)
	for i := range out {
		out[i].P = slices.Clone(out[i].P)
	}
	return out
}

// mustMake puts entries one after the other.
func mustMake(t *testing.T, k int, l []api.Entry) *tree.Tree {
	t.Helper()
	x, e := tree.New(k)
	if e != api.Fine {
		t.Fatal("new", k, e)
	}
	for _, entry := range l {
		if x, e = x.Put(entry.P, entry.V); e != api.Fine {
			t.Fatal("put", entry, e)
		}
	}
	return x
}

func mustDo(t *testing.T, x *tree.Tree, l []api.Change) *tree.Tree {
	t.Helper()
	y, e := Do(x, l)
	if e != api.Fine || y == nil {
		t.Fatal("do", l, e)
	}
	return y
}

func mustThen(t *testing.T, k int, a, b []api.Change) []api.Change {
	t.Helper()
	l, e := Then(k, a, b)
	if e != api.Fine {
		t.Fatal("then", a, b, e)
	}
	return l
}

func mustUndoAll(t *testing.T, x *tree.Tree, l []api.Change) *tree.Tree {
	t.Helper()
	return mustDo(t, x, Undo(l))
}

// Checks.

// checkSame: both trees have the same nodes.
func checkSame(t *testing.T, x, y *tree.Tree) {
	t.Helper()
	if x.K() != y.K() || !reflect.DeepEqual(x.Shapes(), y.Shapes()) {
		t.Fatal("a tree of", walk.All(x.Root()), "isn't one of", walk.All(y.Root()))
	}
}

// checkDo: the changes, asked of a tree of some entries, are told as they are read plainly, and done, and undone; nothing that was there has become another thing.
func checkDo(t *testing.T, x *tree.Tree, l []api.Entry, changes []api.Change) {
	t.Helper()
	kept := copied(changes)
	fits := plainFits(l, changes)
	if got, e := Fits(x, changes); got != fits || e != api.Fine {
		t.Fatal(changes, "fits", l, got, e, "not", fits)
	}
	y, e := Do(x, changes)
	if !fits {
		if y != nil || e != api.Conflict {
			t.Fatal(changes, "done on", l, y, e)
		}
		return
	}
	if e != api.Fine || y.K() != x.K() {
		t.Fatal(changes, "done on", l, e)
	}
	want := plainDone(l, changes)
	if got := walk.All(y.Root()); !sameEntries(got, want) {
		t.Fatal(changes, "done on", l, "made", got, "not", want)
	}
	if (y == x) != (len(changes) == 0) {
		t.Fatal(changes, "done on", l, "the very same", y == x)
	}
	if got := walk.All(x.Root()); !sameEntries(got, l) {
		t.Fatal("the tree has become another one", got, "not", l)
	}
	checkSame(t, mustUndoAll(t, y, changes), x)
	if !sameChanges(kept, changes) {
		t.Fatal("what was handed in has become another one", changes, "not", kept)
	}
}

// checkThen: both lists are told put together, and apart, as they are read plainly.
func checkThen(t *testing.T, k int, a, b []api.Change) {
	t.Helper()
	keptA, keptB := copied(a), copied(b)
	want, fits := plainThen(a, b)
	got, e := Then(k, a, b)
	if fits && (e != api.Fine || !sameChanges(got, want)) {
		t.Fatal(a, "then", b, "told", got, e, "not", want)
	}
	if !fits && (e != api.Conflict || len(got) != 0) {
		t.Fatal(a, "then", b, "told", got, e)
	}
	if !Right(k, got) {
		t.Fatal(a, "then", b, "told", got, "which isn't right")
	}
	apart := plainApart(a, b)
	if is, e := Apart(k, a, b); is != apart || e != api.Fine {
		t.Fatal(a, "apart", b, is, e, "not", apart)
	}
	if !sameChanges(keptA, a) || !sameChanges(keptB, b) {
		t.Fatal("what was handed in has become another one", a, b)
	}
}

// checkShared: below no node of y that needn't be another one is another one.
func checkShared(t *testing.T, x, y *tree.Tree) {
	t.Helper()
	had := map[string]*node.Node{}
	through(x.Root(), func(n *node.Node) { had[fmt.Sprint(walk.All(n))] = n })
	through(y.Root(), func(n *node.Node) {
		if was := had[fmt.Sprint(walk.All(n))]; was != nil && was != n {
			t.Fatal("the node of", walk.All(n), "has become another one")
		}
	})
}

// through tells all nodes from n down.
func through(n *node.Node, tell func(n *node.Node)) {
	if n == nil {
		return
	}
	tell(n)
	for _, addr := range n.Shape().Places {
		through(n.Kid(addr), tell)
	}
}

// The chapter's examples, and those of the whole.

func TestExample(t *testing.T) {
	p := []uint64{4, 0}
	both := mustThen(t, 2, []api.Change{fresh(3, p...)}, []api.Change{other(3, 5, p...)})
	if !sameChanges(both, []api.Change{fresh(5, p...)}) {
		t.Error(both)
	}
	if none := mustThen(t, 2, both, []api.Change{gone(5, p...)}); len(none) != 0 {
		t.Error(none)
	}
}

func TestDoExample(t *testing.T) {
	x := mustMake(t, 2, []api.Entry{at(3, 4, 0), at(1, 7, 3)})
	l := []api.Change{other(3, 5, 4, 0), gone(1, 7, 3), fresh(0, 0, 8)}
	y := mustDo(t, x, l)
	if got := walk.All(y.Root()); !sameEntries(got, []api.Entry{at(5, 4, 0), at(0, 0, 8)}) {
		t.Error(got)
	}
	want := []api.Change{other(5, 3, 4, 0), fresh(1, 7, 3), gone(0, 0, 8)}
	if got := Undo(l); !sameChanges(got, want) {
		t.Error(got)
	}
	checkSame(t, mustDo(t, y, want), x)
	if z, e := Do(y, l); z != nil || e != api.Conflict {
		t.Error(z, e)
	}
}

// P13.1: Right.

func TestRightK(t *testing.T) {
	for _, k := range []int{math.MinInt, -16, -1, 0, 1, 2, 15, 16, 17, 18, 32, 64, 1 << 20, math.MaxInt} {
		want := k >= 1 && k <= 16
		if Right(k, nil) != want || Right(k, []api.Change{}) != want {
			t.Error(k, "no changes")
		}
		for n := range 20 {
			for _, c := range []api.Change{fresh(3, all(n, 9)...), gone(0, all(n, 9)...), other(1, 2, all(n, 9)...)} {
				if Right(k, []api.Change{c}) != (want && n == k) {
					t.Error(k, c)
				}
			}
		}
		if Right(k, []api.Change{{Has: true}}) {
			t.Error(k, "a nil point")
		}
	}
}

func TestRightPointsOfAnotherK(t *testing.T) {
	for k := 1; k <= 16; k++ {
		l := []api.Change{fresh(1, all(k, 1)...), fresh(1, all(k, 2)...), fresh(1, all(k, 3)...)}
		if !Right(k, l) {
			t.Error(k, l)
		}
		for i := range l {
			for _, n := range []int{0, 1, k - 1, k + 1, 16, 17} {
				if n == k {
					continue
				}
				bad := copied(l)
				bad[i].P = all(n, uint64(i+1))
				if Right(k, bad) || Right(n, bad) {
					t.Error(k, bad)
				}
			}
		}
	}
}

// anyChanges are all changes of a point with few values, right ones and others.
func anyChanges(p []uint64) []api.Change {
	var l []api.Change
	values := []uint64{0, 1, 2, math.MaxUint64}
	for i := range 4 {
		for _, v := range values {
			for _, w := range values {
				l = append(l, api.Change{P: p, Had: i&1 > 0, Has: i&2 > 0, Old: v, New: w})
			}
		}
	}
	return l
}

func TestRightOneChange(t *testing.T) {
	right := 0
	for _, c := range anyChanges([]uint64{5, 6}) {
		l := []api.Change{c}
		if Right(2, l) != plainRight(2, l) {
			t.Error(c)
		}
		if Right(2, l) {
			right++
		}
		// At each place of a list.
		for i := range 3 {
			l := []api.Change{fresh(0, 5, 5), gone(0, 6, 6), other(1, 0, 9, 9)}
			c.P = l[i].P
			l[i] = c
			if Right(2, l) != plainRight(2, l) {
				t.Error(l)
			}
		}
	}
	// 4 that are new, 4 that are gone, 12 from a value to another one.
	if right != 20 {
		t.Error(right)
	}
}

func TestRightOrder(t *testing.T) {
	for _, points := range [][][]uint64{
		{{0}, {1}, {2}, {1 << 63}, {math.MaxUint64}},
		{{0, 0}, {0, 1}, {1, 0}, {1, 1}, {2, 0}, {0, 2}, {7, 3}, {0, 8}, {4, 0}},
		{{0, 0}, {1 << 63, 0}, {0, 1 << 63}, {1<<63 - 1, math.MaxUint64}, {math.MaxUint64, math.MaxUint64}},
		{{1, 2, 3}, {1, 2, 2}, {1, 3, 0}, {0, 4, 0}},
		{all(16, 0), all(16, 1), append(all(15, 0), 1), append([]uint64{1}, all(15, 0)...)},
	} {
		k := len(points[0])
		for i, p := range points {
			for j, q := range points {
				l := []api.Change{fresh(1, p...), gone(1, q...)}
				if Right(k, l) != (plainCmp(p, q) < 0) {
					t.Error(i, j, l)
				}
				for _, r := range points {
					l := []api.Change{fresh(1, p...), gone(1, q...), other(1, 2, r...)}
					if Right(k, l) != (plainCmp(p, q) < 0 && plainCmp(q, r) < 0) {
						t.Error(l)
					}
				}
			}
		}
	}
}

// Order by coordinates isn't z-order.
func TestRightByZOrder(t *testing.T) {
	if !Right(2, []api.Change{fresh(1, 7, 3), fresh(1, 0, 8)}) || Right(2, []api.Change{fresh(1, 0, 8), fresh(1, 7, 3)}) {
		t.Error("(7, 3) comes ahead of (0, 8)")
	}
	if !Right(2, []api.Change{fresh(1, 1, 1), fresh(1, 2, 0)}) || Right(2, []api.Change{fresh(1, 2, 0), fresh(1, 1, 1)}) {
		t.Error("(1, 1) comes ahead of (2, 0)")
	}
}

func TestRightOfAnyLists(t *testing.T) {
	for k := 1; k <= 16; k++ {
		n := chance(20 + k)
		for _, level := range []int{0, 5, 63} {
			l := n.changes(k, level, 20, n.entries(k, level, 20))
			if !Right(k, l) || !plainRight(k, l) {
				t.Fatal(k, l)
			}
			for range 30 {
				if bad := broken(&n, l); Right(k, bad) != plainRight(k, bad) {
					t.Fatal(k, bad)
				}
			}
		}
	}
}

// broken is the list with something else in one of its changes, or with two of these in each other's place.
func broken(n *chance, l []api.Change) []api.Change {
	l = copied(l)
	if len(l) == 0 {
		return l
	}
	i, j := n.below(len(l)), n.below(len(l))
	switch n.below(6) {
	case 0:
		l[i], l[j] = l[j], l[i]
	case 1:
		l[i].P = slices.Clone(l[j].P)
	case 2:
		l[i].Had = !l[i].Had
	case 3:
		l[i].Has = !l[i].Has
	case 4:
		l[i].Old = n.value()
	case 5:
		l[i].New = n.value()
	}
	return l
}

// Small worlds: each of some points has nothing, 0 or 1.

var worlds = [][][]uint64{
	{{0}, {1}, {2}},
	{{0, 0}, {0, 1}, {1, 1}},
	{{4, 0}, {7, 3}, {0, 8}},
	{{0}, {1 << 62}, {1 << 63}},
	{{4, 4, 4}, {4, 6, 4}, {12, 4, 4}},
}

// entriesOf are all lists of entries at the points.
func entriesOf(points [][]uint64) [][]api.Entry {
	lists := [][]api.Entry{nil}
	for _, p := range points {
		for _, l := range slices.Clone(lists) {
			for v := range uint64(2) {
				lists = append(lists, append(slices.Clip(l), at(v, p...)))
			}
		}
	}
	return lists
}

// changesOf are all lists of changes at the points.
func changesOf(points [][]uint64) [][]api.Change {
	lists := [][]api.Change{nil}
	for _, p := range points {
		var here []api.Change
		for v := range uint64(2) {
			here = append(here, fresh(v, p...), gone(v, p...), other(v, 1-v, p...))
		}
		for _, l := range slices.Clone(lists) {
			for _, c := range here {
				lists = append(lists, append(slices.Clip(l), c))
			}
		}
	}
	return lists
}

// P13.1, P13.3: all changes of three points, on all trees of these.

func TestDoAll(t *testing.T) {
	for _, points := range worlds {
		k := len(points[0])
		lists := changesOf(points)
		if len(lists) != 343 {
			t.Fatal(len(lists))
		}
		for _, l := range entriesOf(points) {
			x := mustMake(t, k, l)
			for _, changes := range lists {
				checkDo(t, x, l, changes)
			}
		}
	}
}

// P13.2: all pairs of lists of changes of three points.

func TestThenAll(t *testing.T) {
	for _, points := range worlds[1:3] {
		lists := changesOf(points)
		for _, a := range lists {
			for _, b := range lists {
				checkThen(t, len(points[0]), a, b)
			}
		}
	}
}

// P13.3: all pairs of lists of changes of two points: one after the other comes to the same as both put together, and what is apart comes to the same in either order.

func TestOneAfterTheOther(t *testing.T) {
	for _, points := range worlds {
		points, k := points[:2], len(points[0])
		lists := changesOf(points)
		for _, l := range entriesOf(points) {
			x := mustMake(t, k, l)
			for _, a := range lists {
				for _, b := range lists {
					if plainFits(l, a) && plainFits(plainDone(l, a), b) {
						checkBoth(t, x, a, b)
					}
				}
			}
		}
	}
}

// checkBoth: a fits the tree, and b what a makes of it.
func checkBoth(t *testing.T, x *tree.Tree, a, b []api.Change) {
	t.Helper()
	k := x.K()
	y := mustDo(t, mustDo(t, x, a), b)
	both := mustThen(t, k, a, b)
	checkSame(t, mustDo(t, x, both), y)
	back := mustThen(t, k, Undo(b), Undo(a))
	if !sameChanges(back, Undo(both)) {
		t.Fatal(a, "then", b, "come back by", back)
	}
	checkSame(t, mustDo(t, y, back), x)
	if apart, e := Apart(k, a, b); e != api.Fine || !apart {
		return
	}
	checkSame(t, mustDo(t, mustDo(t, x, b), a), y)
	if turned := mustThen(t, k, b, a); !sameChanges(turned, both) {
		t.Fatal(a, "then", b, "the other way round", turned)
	}
}

// P13.1, P13.2, P13.3: any entries and changes of each K, at levels at their ends and between.

func TestAnyChanges(t *testing.T) {
	for k := 1; k <= 16; k++ {
		n := chance(k)
		for _, level := range []int{0, 1, 5, 31, 62, 63} {
			l := n.entries(k, level, 1+n.below(30))
			x := mustMake(t, k, l)
			a := n.changes(k, level, 20, l)
			checkDo(t, x, l, a)
			y := mustDo(t, x, a)
			checkSame(t, y, mustMake(t, k, plainDone(l, a)))
			checkShared(t, x, y)
			b := n.changes(k, level, 20, plainDone(l, a))
			checkThen(t, k, a, b)
			checkBoth(t, x, a, b)
			// b needn't fit x, nor a behind b.
			checkDo(t, x, l, b)
			checkThen(t, k, b, a)
			checkThen(t, k, a, a)
			for range 10 {
				if c := broken(&n, a); plainRight(k, c) {
					checkDo(t, x, l, c)
					checkThen(t, k, a, c)
					checkThen(t, k, c, b)
				}
			}
		}
	}
}

// P13.1: a list that fits but for one change, wherever that stands.

func TestOneThatDoesNotFit(t *testing.T) {
	for _, k := range []int{1, 2, 7, 16} {
		n := chance(60 + k)
		for _, level := range []int{0, 20, 63} {
			l := n.entries(k, level, 20)
			x := mustMake(t, k, l)
			good := n.changes(k, level, 20, l)
			for i := range good {
				for _, c := range anyChanges(good[i].P) {
					bad := copied(good)
					bad[i] = c
					if !plainRight(k, bad) {
						checkForm(t, k, x, good, bad)
						continue
					}
					if fits := plainFits(l, bad); fits != (c.Had == good[i].Had && c.Old == good[i].Old) {
						t.Fatal(l, bad)
					}
					checkDo(t, x, l, bad)
				}
			}
		}
	}
}

// checkForm: a list that isn't right is refused wherever it stands.
func checkForm(t *testing.T, k int, x *tree.Tree, good, bad []api.Change) {
	t.Helper()
	kept := copied(bad)
	if Right(k, bad) {
		t.Fatal(bad, "is right")
	}
	if fits, e := Fits(x, bad); fits || e != api.Form {
		t.Fatal(bad, "fits", fits, e)
	}
	if y, e := Do(x, bad); y != nil || e != api.Form {
		t.Fatal(bad, "is done", y, e)
	}
	for _, pair := range [][2][]api.Change{{good, bad}, {bad, good}, {bad, bad}, {nil, bad}, {bad, nil}} {
		if l, e := Then(k, pair[0], pair[1]); len(l) != 0 || e != api.Form {
			t.Fatal(pair, "then", l, e)
		}
		if apart, e := Apart(k, pair[0], pair[1]); apart || e != api.Form {
			t.Fatal(pair, "apart", apart, e)
		}
	}
	if !sameChanges(kept, bad) {
		t.Fatal("what was handed in has become another one", bad)
	}
}

// P13.1: no changes, and trees without entries and with one.

func TestNoneAndOne(t *testing.T) {
	for k := 1; k <= 16; k++ {
		none := mustMake(t, k, nil)
		for _, l := range [][]api.Change{nil, {}} {
			if y := mustDo(t, none, l); y != none {
				t.Error(k, "another tree of no changes")
			}
			if y := mustUndoAll(t, none, l); y != none {
				t.Error(k, "another tree of no changes undone")
			}
			if fits, e := Fits(none, l); !fits || e != api.Fine {
				t.Error(k, fits, e)
			}
		}
		for _, c := range []uint64{0, 1, 5, 1<<63 - 1, 1 << 63, math.MaxUint64} {
			p := all(k, c)
			one := []api.Entry{at(c, p...)}
			x := mustMake(t, k, one)
			if mustDo(t, x, nil) != x || mustDo(t, x, []api.Change{}) != x {
				t.Error(k, "another tree of no changes")
			}
			checkDo(t, none, nil, []api.Change{fresh(c, p...)})
			checkDo(t, none, nil, []api.Change{gone(c, p...)})
			checkDo(t, none, nil, []api.Change{other(c, c+1, p...)})
			checkDo(t, x, one, []api.Change{gone(c, p...)})
			checkDo(t, x, one, []api.Change{gone(c+1, p...)})
			checkDo(t, x, one, []api.Change{fresh(c, p...)})
			checkDo(t, x, one, []api.Change{other(c, c+1, p...)})
			checkDo(t, x, one, []api.Change{other(c+1, c, p...)})
			checkDo(t, x, one, []api.Change{fresh(c, all(k, c^1)...)})
			checkDo(t, x, one, []api.Change{fresh(c, all(k, c^1<<63)...)})
			y := mustDo(t, x, []api.Change{gone(c, p...)})
			if y.Root() != nil || y.Len() != 0 || y.K() != k {
				t.Error(k, y.Len())
			}
		}
	}
}

// P13.1: a value that is 0 isn't one that isn't there.

func TestZeroAndNothing(t *testing.T) {
	for k := 1; k <= 16; k++ {
		p := all(k, 6)
		none, zero := mustMake(t, k, nil), mustMake(t, k, []api.Entry{at(0, p...)})
		made, lost := []api.Change{fresh(0, p...)}, []api.Change{gone(0, p...)}
		if y := mustDo(t, none, made); y.Len() != 1 {
			t.Error(k, y.Len())
		}
		if y := mustDo(t, zero, lost); y.Len() != 0 {
			t.Error(k, y.Len())
		}
		for i, c := range []struct {
			x *tree.Tree
			l []api.Change
		}{
			{zero, made}, {none, lost}, {none, []api.Change{other(0, 1, p...)}}, {zero, []api.Change{fresh(1, p...)}},
		} {
			if fits, e := Fits(c.x, c.l); fits || e != api.Fine {
				t.Error(k, i, fits, e)
			}
			if y, e := Do(c.x, c.l); y != nil || e != api.Conflict {
				t.Error(k, i, y, e)
			}
		}
		if l := mustThen(t, k, made, lost); len(l) != 0 {
			t.Error(k, l)
		}
		if l := mustThen(t, k, lost, made); len(l) != 0 {
			t.Error(k, l)
		}
		if l := mustThen(t, k, made, []api.Change{other(0, 7, p...)}); !sameChanges(l, []api.Change{fresh(7, p...)}) {
			t.Error(k, l)
		}
		// From 0 by way of nothing, and from nothing by way of 0.
		if l := mustThen(t, k, lost, []api.Change{fresh(7, p...)}); !sameChanges(l, []api.Change{other(0, 7, p...)}) {
			t.Error(k, l)
		}
		for _, pair := range [][2][]api.Change{{made, made}, {lost, lost}, {lost, []api.Change{other(0, 7, p...)}}, {[]api.Change{gone(7, p...)}, lost}} {
			if l, e := Then(k, pair[0], pair[1]); len(l) != 0 || e != api.Conflict {
				t.Error(k, pair, l, e)
			}
		}
	}
}

// P13.1, P13.3: changes at every point of a tree.

func TestEveryPoint(t *testing.T) {
	for k := 1; k <= 16; k++ {
		n := chance(90 + k)
		for _, level := range []int{0, 7, 63} {
			l := n.entries(k, level, 40)
			none, x := mustMake(t, k, nil), mustMake(t, k, l)
			var made, lost, turned []api.Change
			for _, entry := range l {
				made = append(made, fresh(entry.V, entry.P...))
				lost = append(lost, gone(entry.V, entry.P...))
				turned = append(turned, other(entry.V, n.otherThan(entry.V), entry.P...))
			}
			checkDo(t, none, nil, made)
			checkDo(t, x, l, lost)
			checkDo(t, x, l, turned)
			checkDo(t, x, l, made)
			checkSame(t, mustDo(t, none, made), x)
			if y := mustDo(t, x, lost); y.Root() != nil {
				t.Error(k, level, "something is left")
			}
			checkBoth(t, none, made, turned)
			checkBoth(t, x, turned, Undo(turned))
			checkBoth(t, x, lost, made)
			if both := mustThen(t, k, made, lost); len(both) != 0 {
				t.Error(k, level, both)
			}
		}
	}
}

// P13.1: level 0 and level 63, with all addresses of few bits.

func TestLevelsAtTheEnds(t *testing.T) {
	for k := 1; k <= 6; k++ {
		for _, level := range []int{0, 63} {
			var l []api.Entry
			for addr := range 1 << k {
				p := make([]uint64, k)
				for i := range p {
					p[i] = uint64(addr>>(k-1-i)&1) << level
				}
				l = append(l, at(uint64(addr), p...))
			}
			x := mustMake(t, k, l)
			if x.Root().Level() != level {
				t.Fatal(k, level, x.Root().Level())
			}
			for left := range l {
				var changes []api.Change
				for i, entry := range l {
					if i < left {
						changes = append(changes, gone(entry.V, entry.P...))
					}
				}
				checkDo(t, x, l, changes)
				checkShared(t, x, mustDo(t, x, changes))
			}
		}
	}
}

// P13.1: beside the changes' points all is the very same.

func TestTheVerySameNodes(t *testing.T) {
	for _, k := range []int{1, 2, 3, 16} {
		for _, level := range []int{4, 12, 63} {
			n := chance(200 + k + level)
			l := n.entries(k, level, 150)
			x := mustMake(t, k, l)
			for i := range 12 {
				changes := n.changes(k, level, 6, l)
				changes = slices.DeleteFunc(changes, func(api.Change) bool { return n.below(12) > i })
				y := mustDo(t, x, changes)
				checkShared(t, x, y)
				checkShared(t, y, mustUndoAll(t, y, changes))
			}
		}
	}
}

// P13.2: Undo, of any list.

func TestUndo(t *testing.T) {
	for _, l := range [][]api.Change{nil, {}} {
		if got := Undo(l); len(got) != 0 {
			t.Error(got)
		}
	}
	l := slices.Concat(
		anyChanges([]uint64{5, 6}), anyChanges(nil), anyChanges([]uint64{}), anyChanges([]uint64{1}), anyChanges(all(17, 3)),
		[]api.Change{fresh(1, 9, 9), fresh(1, 9, 9), gone(0, 0, 0)},
	)
	kept := copied(l)
	if got := Undo(l); !sameChanges(got, plainUndo(l)) {
		t.Error(got)
	}
	if got := Undo(Undo(l)); !sameChanges(got, l) {
		t.Error(got)
	}
	for _, c := range l {
		if got := Undo([]api.Change{c}); len(got) != 1 || !sameChange(got[0], plainUndo([]api.Change{c})[0]) {
			t.Error(c, got)
		}
	}
	if !sameChanges(l, kept) {
		t.Error("what was handed in has become another one")
	}
}

// P13.2: points of one list alone, ahead of, between and behind those of the other one.

func TestThenInOrder(t *testing.T) {
	p, q, r := []uint64{4, 0}, []uint64{7, 3}, []uint64{0, 8}
	want := []api.Change{fresh(1, p...), other(2, 3, q...), gone(4, r...)}
	for set := range 8 {
		var a, b []api.Change
		for i, c := range want {
			if set>>i&1 > 0 {
				a = append(a, c)
			} else {
				b = append(b, c)
			}
		}
		if got := mustThen(t, 2, a, b); !sameChanges(got, want) {
			t.Error(a, b, got)
		}
		if apart, e := Apart(2, a, b); !apart || e != api.Fine {
			t.Error(a, b, apart, e)
		}
	}
}

// P13.2: what one list leaves alone needn't fit anything.

func TestThenBesideEachOther(t *testing.T) {
	a := []api.Change{other(3, 4, 1), gone(9, 5)}
	b := []api.Change{other(4, 3, 1), fresh(7, 2)}
	if got := mustThen(t, 1, a, b); !sameChanges(got, []api.Change{fresh(7, 2), gone(9, 5)}) {
		t.Error(got)
	}
	if apart, e := Apart(1, a, b); apart || e != api.Fine {
		t.Error(apart, e)
	}
	if apart, e := Apart(1, a, b[1:]); !apart || e != api.Fine {
		t.Error(apart, e)
	}
}

// P13.2: a point in common at each place of both lists, with unlike changes or the same one.

func TestOneInCommon(t *testing.T) {
	for i := range 7 {
		var a, b []api.Change
		for j := range uint64(7) {
			if j == uint64(i) {
				a, b = append(a, fresh(3, j)), append(b, other(3, 5, j))
			} else if j%2 == 0 {
				a = append(a, gone(j, j))
			} else {
				b = append(b, gone(j, j))
			}
		}
		checkThen(t, 1, a, b)
		if got := mustThen(t, 1, a, b); len(got) != 7 {
			t.Error(i, got)
		}
		if apart, e := Apart(1, a, b); apart || e != api.Fine {
			t.Error(i, apart, e)
		}
		if got, e := Then(1, b, a); len(got) != 0 || e != api.Conflict {
			t.Error(i, got, e)
		}
	}
}

// P13.2: lists of nothing on one side, or on both.

func TestThenOfNone(t *testing.T) {
	for k := 1; k <= 16; k++ {
		l := []api.Change{fresh(1, all(k, 2)...), other(0, math.MaxUint64, all(k, 5)...)}
		for _, none := range [][]api.Change{nil, {}} {
			if got := mustThen(t, k, none, l); !sameChanges(got, l) {
				t.Error(got)
			}
			if got := mustThen(t, k, l, none); !sameChanges(got, l) {
				t.Error(got)
			}
			if got := mustThen(t, k, none, none); len(got) != 0 {
				t.Error(got)
			}
			for _, pair := range [][2][]api.Change{{none, l}, {l, none}, {none, none}} {
				if apart, e := Apart(k, pair[0], pair[1]); !apart || e != api.Fine {
					t.Error(pair, apart, e)
				}
			}
		}
	}
}

// Wrong inputs: what is refused, with the first error that holds.

// wrong are lists that aren't any of K 2, and of no other K.
func wrong() [][]api.Change {
	return [][]api.Change{
		{{}}, {{P: []uint64{4, 0}}}, {{Has: true}}, {{P: []uint64{}, Has: true}},
		{fresh(1, all(17, 0)...)}, {fresh(1, 4, 0), fresh(1, 5)}, {fresh(1, 4, 0), fresh(1, 5, 5, 5)},
		{fresh(1, 4, 0), fresh(1, 4, 0)}, {fresh(1, 4, 0), gone(1, 4, 0)}, {fresh(1, 0, 8), fresh(1, 7, 3)},
		{other(4, 4, 4, 0)}, {other(0, 0, 4, 0)}, {{P: []uint64{4, 0}, Has: true, Old: 1}}, {{P: []uint64{4, 0}, Had: true, New: 1}},
		{{P: []uint64{4, 0}, Old: 1}}, {{P: []uint64{4, 0}, New: 1}}, {{P: []uint64{4, 0}, Old: 1, New: 2}},
	}
}

func TestNil(t *testing.T) {
	for _, l := range append(wrong(), nil, []api.Change{}, []api.Change{fresh(1, 4, 0)}) {
		if fits, e := Fits(nil, l); fits || e != api.Nil {
			t.Error(l, fits, e)
		}
		if y, e := Do(nil, l); y != nil || e != api.Nil {
			t.Error(l, y, e)
		}
	}
}

func TestForm(t *testing.T) {
	good := []api.Change{other(3, 5, 4, 0)}
	for _, x := range []*tree.Tree{mustMake(t, 2, nil), mustMake(t, 2, []api.Entry{at(3, 4, 0)}), mustMake(t, 2, []api.Entry{at(3, 4, 0), at(1, 7, 3)})} {
		for _, bad := range wrong() {
			checkForm(t, 2, x, good, bad)
			for k := -1; k <= 18; k++ {
				if Right(k, bad) {
					t.Error(k, bad)
				}
			}
		}
	}
}

// Form goes ahead of Conflict, wherever what doesn't fit stands.
func TestFormAheadOfConflict(t *testing.T) {
	x := mustMake(t, 2, []api.Entry{at(3, 4, 0)})
	unfit := fresh(1, 4, 0)
	for _, c := range []api.Change{{P: []uint64{7, 3}}, other(2, 2, 7, 3), fresh(1, 7), gone(1, 0, 0)} {
		bad := []api.Change{unfit, c}
		checkForm(t, 2, x, []api.Change{unfit}, bad)
		bad = []api.Change{c, unfit}
		if !plainRight(2, bad) {
			checkForm(t, 2, x, []api.Change{unfit}, bad)
		}
	}
	if _, e := Do(x, []api.Change{unfit}); e != api.Conflict {
		t.Error(e)
	}
	// A list that doesn't fit behind itself, of a K that isn't its own.
	for k := -1; k <= 18; k++ {
		want := api.Form
		if k == 2 {
			want = api.Conflict
		}
		if l, e := Then(k, []api.Change{unfit}, []api.Change{unfit}); len(l) != 0 || e != want {
			t.Error(k, l, e)
		}
	}
}

func TestUnlikeK(t *testing.T) {
	for k := 1; k <= 16; k++ {
		for other := 1; other <= 17; other++ {
			l := []api.Change{fresh(1, all(other, 4)...)}
			if other == k {
				continue
			}
			for _, x := range []*tree.Tree{mustMake(t, k, nil), mustMake(t, k, []api.Entry{at(3, all(k, 4)...)})} {
				checkForm(t, k, x, []api.Change{fresh(1, all(k, 4)...)}, l)
			}
		}
	}
}

// Of a k that can't be nothing is a list, not even one without changes.
func TestNoK(t *testing.T) {
	for _, k := range []int{math.MinInt, -1, 0, 17, 18, 1 << 40, math.MaxInt} {
		for _, l := range [][]api.Change{nil, {}, {fresh(1)}, {fresh(1, all(17, 4)...)}, {{Has: true}}} {
			for _, pair := range [][2][]api.Change{{nil, l}, {l, nil}, {l, l}} {
				if got, e := Then(k, pair[0], pair[1]); len(got) != 0 || e != api.Form {
					t.Error(k, pair, got, e)
				}
				if apart, e := Apart(k, pair[0], pair[1]); apart || e != api.Form {
					t.Error(k, pair, apart, e)
				}
			}
		}
	}
}

// A tree that no call made has K 0: there are no lists of that.
func TestNotMade(t *testing.T) {
	for _, l := range [][]api.Change{nil, {}, {fresh(1)}, {fresh(1, 4)}} {
		if fits, e := Fits(new(tree.Tree), l); fits || e != api.Form {
			t.Error(l, fits, e)
		}
		if y, e := Do(new(tree.Tree), l); y != nil || e != api.Form {
			t.Error(l, y, e)
		}
	}
}

// R2, R4: what is refused has changed nothing, and nothing is kept, or told, that could be changed from outside.

func TestNothingIsShared(t *testing.T) {
	n := chance(11)
	l := n.entries(3, 9, 40)
	x := mustMake(t, 3, l)
	a := copied(n.changes(3, 9, 20, l))
	b := copied(n.changes(3, 9, 20, plainDone(l, a)))
	y := mustDo(t, x, a)
	both, back := mustThen(t, 3, a, b), Undo(a)
	keptBoth, keptBack, shapes := copied(both), copied(back), y.Shapes()
	for _, list := range [][]api.Change{a, b} {
		for i := range list {
			clear(list[i].P)
			_ = append(list[i].P, 77)
		}
		clear(list)
	}
	if !sameChanges(both, keptBoth) || !sameChanges(back, keptBack) || !reflect.DeepEqual(y.Shapes(), shapes) {
		t.Error("what was told has become another thing")
	}
	if got := walk.All(x.Root()); !sameEntries(got, l) {
		t.Error("the tree has become another one")
	}
}

func TestWhatIsToldIsTheCallers(t *testing.T) {
	n := chance(12)
	l := n.entries(2, 9, 30)
	a := copied(n.changes(2, 9, 20, l))
	b := copied(n.changes(2, 9, 20, plainDone(l, a)))
	keptA, keptB := copied(a), copied(b)
	for _, told := range [][]api.Change{Undo(a), mustThen(t, 2, a, b), mustThen(t, 2, a, nil), mustThen(t, 2, nil, b)} {
		want := copied(told)
		for i := range told {
			if !sameChange(told[i], want[i]) {
				t.Fatal("two points of one answer share what they have", i)
			}
			_ = append(told[i].P, 77)
			clear(told[i].P)
		}
		clear(told)
	}
	if !sameChanges(a, keptA) || !sameChanges(b, keptB) {
		t.Error("what was told shares what was handed in")
	}
}

func TestVersionsStay(t *testing.T) {
	n := chance(13)
	l := n.entries(2, 20, 60)
	trees, lists := []*tree.Tree{mustMake(t, 2, l)}, [][]api.Entry{l}
	for range 20 {
		last := len(trees) - 1
		changes := n.changes(2, 20, 10, lists[last])
		trees = append(trees, mustDo(t, trees[last], changes))
		lists = append(lists, plainDone(lists[last], changes))
		if _, e := Do(trees[last], []api.Change{gone(5, 1, 1)}); e != api.Conflict {
			t.Fatal(e)
		}
	}
	for i, x := range trees {
		if got := walk.All(x.Root()); !sameEntries(got, lists[i]) {
			t.Error(i, "has become another one")
		}
	}
}

// P13.3, and T2 of the whole: changes between versions are lists that fit, and those of many steps, put together, are those from the first to the last.

func TestChangesBetweenVersions(t *testing.T) {
	for _, k := range []int{1, 2, 3, 16} {
		for _, level := range []int{3, 63} {
			n := chance(500 + k + level)
			first := n.entries(k, level, 60)
			l, x := first, mustMake(t, k, first)
			start, sum := x, []api.Change(nil)
			for range 15 {
				next := plainDone(l, n.changes(k, level, 10, l))
				y := mustMake(t, k, next)
				step, _ := diff.Changes(x, y)
				checkDo(t, x, l, step)
				checkSame(t, mustDo(t, x, step), y)
				sum = mustThen(t, k, sum, step)
				x, l = y, next
				if want, _ := diff.Changes(start, x); !sameChanges(sum, want) {
					t.Fatal(k, level, sum, "not", want)
				}
			}
			checkSame(t, mustDo(t, start, sum), x)
			checkSame(t, mustUndoAll(t, x, sum), start)
		}
	}
}

// P13.1, P13.2: lists of many changes.

func TestManyChanges(t *testing.T) {
	n := chance(77)
	var a, b []api.Change
	for c := range uint64(20000) {
		a = append(a, fresh(c, c))
		if n.below(2) == 0 {
			b = append(b, gone(c, c))
		} else {
			b = append(b, other(c, c+1, c))
		}
	}
	none := mustMake(t, 1, nil)
	y := mustDo(t, none, a)
	if y.Len() != len(a) {
		t.Error(y.Len())
	}
	z := mustDo(t, y, b)
	checkSame(t, mustDo(t, none, mustThen(t, 1, a, b)), z)
	checkSame(t, mustUndoAll(t, mustUndoAll(t, z, b), a), none)
	if apart, e := Apart(1, a, b); apart || e != api.Fine {
		t.Error(apart, e)
	}
	if apart, e := Apart(1, a[:9000], b[9000:]); !apart || e != api.Fine {
		t.Error(apart, e)
	}
}
