package diff

import (
	"math"
	"reflect"
	"slices"
	"testing"

	"pantile/api"
	"pantile/node"
	"pantile/tree"
	"pantile/zbits"
)

// chance makes numbers that look like chance, and are the same in each run.
type chance uint64

func (n *chance) below(most int) int {
	*n = *n*6364136223846793005 + 1442695040888963407
	return int(uint64(*n)>>33) % most
}

// point is a point whose bits above a level are those of all others.
func (n *chance) point(k, level int) []uint64 {
	p := all(k, 0xA5A5A5A5A5A5A5A5)
	for i := range p {
		for range 1 + n.below(2) {
			p[i] ^= 1 << n.below(level+1)
		}
	}
	return p
}

// grid is a point of small coordinates.
func (n *chance) grid(k, most int) []uint64 {
	p := make([]uint64, k)
	for i := range p {
		p[i] = uint64(n.below(most))
	}
	return p
}

// entries are up to most entries with unlike points, that part at a level, or below, in z-order.
func (n *chance) entries(k, level, most int) []api.Entry {
	var l []api.Entry
	for range most {
		l = append(l, at(n.value(), n.point(k, level)...))
	}
	return inOrder(l)
}

// value is one of few values, 0 often, or a great one.
func (n *chance) value() uint64 {
	if n.below(3) > 0 {
		return uint64(n.below(3))
	}
	return math.MaxUint64 - uint64(n.below(3))
}

// at is an entry.
func at(v uint64, p ...uint64) api.Entry {
	return api.Entry{P: p, V: v}
}

// all has the same coordinate K times.
func all(k int, c uint64) []uint64 {
	return slices.Repeat([]uint64{c}, k)
}

// Plain readings: bit by bit, entry by entry, and node by node as the chapter says it.

// plainCmp goes down from the highest level to the first one at which the addresses aren't the same.
func plainCmp(p, q []uint64) int {
	for level := 63; level >= 0; level-- {
		for i, c := range p {
			if a, b := c/(1<<level)%2, q[i]/(1<<level)%2; a != b {
				return int(a) - int(b)
			}
		}
	}
	return 0
}

// inOrder are the entries in z-order, one of each point.
func inOrder(l []api.Entry) []api.Entry {
	slices.SortStableFunc(l, func(x, y api.Entry) int { return plainCmp(x.P, y.P) })
	return slices.CompactFunc(l, func(x, y api.Entry) bool { return slices.Equal(x.P, y.P) })
}

// plainFind tells a point's value, as it stands in a list.
func plainFind(l []api.Entry, p []uint64) (uint64, bool) {
	i, is := slices.BinarySearchFunc(l, p, func(entry api.Entry, p []uint64) int { return plainCmp(entry.P, p) })
	if !is {
		return 0, false
	}
	return l[i].V, true
}

// plainChanges asks both lists for each of their points.
func plainChanges(a, b []api.Entry) []api.Change {
	var l []api.Change
	for _, entry := range inOrder(slices.Concat(a, b)) {
		c := api.Change{P: entry.P}
		c.Old, c.Had = plainFind(a, entry.P)
		c.New, c.Has = plainFind(b, entry.P)
		if c.Had != c.Has || c.Old != c.New {
			l = append(l, c)
		}
	}
	return l
}

// plainSteps is what the chapter says of two nodes, word by word.
func plainSteps(x, y *node.Node) int {
	if x == y {
		return 0
	}
	if x == nil || y == nil {
		return 1
	}
	p, q := x.Prefix(), y.Prefix()
	if x.Level() == y.Level() && slices.Equal(p, q) {
		n := 1
		for _, addr := range places(x, y) {
			n += plainSteps(x.Kid(addr), y.Kid(addr))
		}
		return n
	}
	if x.Level() > y.Level() && x.Covers(q) {
		return 1 + plainSteps(x.Kid(addrAt(q, x.Level())), y)
	}
	if y.Level() > x.Level() && y.Covers(p) {
		return 1 + plainSteps(x, y.Kid(addrAt(p, y.Level())))
	}
	return 1
}

// places are the addresses at which one of both has a kid.
func places(x, y *node.Node) []int {
	l := slices.Concat(x.Shape().Places, y.Shape().Places)
	slices.Sort(l)
	return slices.Compact(l)
}

func addrAt(p []uint64, level int) int {
	addr, _ := zbits.Addr(p, level)
	return addr
}

// plainSwapped are the changes the other way round.
func plainSwapped(l []api.Change) []api.Change {
	var out []api.Change
	for _, c := range l {
		out = append(out, api.Change{P: c.P, Had: c.Has, Old: c.New, Has: c.Had, New: c.Old})
	}
	return out
}

// plainDone is the list on which the changes are done.
func plainDone(l []api.Entry, changes []api.Change) []api.Entry {
	var out []api.Entry
	for _, c := range changes {
		if c.Has {
			out = append(out, at(c.New, c.P...))
		}
	}
	for _, entry := range l {
		if !slices.ContainsFunc(changes, func(c api.Change) bool { return slices.Equal(c.P, entry.P) }) {
			out = append(out, entry)
		}
	}
	return inOrder(out)
}

func sameEntry(x, y api.Entry) bool {
	return x.V == y.V && slices.Equal(x.P, y.P)
}

func sameChange(x, y api.Change) bool {
	return slices.Equal(x.P, y.P) && x.Had == y.Had && x.Has == y.Has && x.Old == y.Old && x.New == y.New
}

func sameChanges(x, y []api.Change) bool {
	return slices.EqualFunc(x, y, sameChange)
}

// mustMake puts entries one after the other.
func mustMake(t *testing.T, k int, l []api.Entry) *tree.Tree {
	t.Helper()
	x, e := tree.New(k)
	if e != api.Fine {
		t.Fatal("new", k, e)
	}
	for _, entry := range l {
		x = mustPut(t, x, entry)
	}
	return x
}

func mustPut(t *testing.T, x *tree.Tree, entry api.Entry) *tree.Tree {
	t.Helper()
	y, e := x.Put(entry.P, entry.V)
	if e != api.Fine {
		t.Fatal("put", entry, e)
	}
	return y
}

func mustDel(t *testing.T, x *tree.Tree, p []uint64) *tree.Tree {
	t.Helper()
	y, e := x.Del(p)
	if e != api.Fine {
		t.Fatal("del", p, e)
	}
	return y
}

// version is a tree, and its entries in z-order.
type version struct {
	x *tree.Tree
	l []api.Entry
}

func mustVersion(t *testing.T, k int, l []api.Entry) version {
	t.Helper()
	return version{x: mustMake(t, k, l), l: l}
}

// put is the version with an entry.
func (v version) put(t *testing.T, entry api.Entry) version {
	t.Helper()
	return version{x: mustPut(t, v.x, entry), l: inOrder(append([]api.Entry{entry}, v.l...))}
}

// del is the version without the point of its entry i.
func (v version) del(t *testing.T, i int) version {
	t.Helper()
	return version{x: mustDel(t, v.x, v.l[i].P), l: slices.Delete(slices.Clone(v.l), i, i+1)}
}

// Checks: each asks for two versions, in both directions.

func checkDiff(t *testing.T, a, b version) {
	t.Helper()
	roots := []*node.Node{a.x.Root(), b.x.Root()}
	changes := plainChanges(a.l, b.l)
	checkOneWay(t, a, b, changes)
	checkOneWay(t, b, a, plainSwapped(changes))
	if roots[0] != a.x.Root() || roots[1] != b.x.Root() {
		t.Fatal("what was handed in has become another one")
	}
}

func checkOneWay(t *testing.T, a, b version, want []api.Change) {
	t.Helper()
	got, e := Changes(a.x, b.x)
	if e != api.Fine || !sameChanges(got, want) {
		t.Fatal("from", a.l, "to", b.l, "told", got, e, "not", want)
	}
	if n, e := Count(a.x, b.x); n != len(want) || e != api.Fine {
		t.Fatal("from", a.l, "to", b.l, "counted", n, e, "not", len(want))
	}
	if same := Same(a.x, b.x); same != (len(want) == 0) {
		t.Fatal("from", a.l, "to", b.l, "same", same)
	}
	steps := plainSteps(a.x.Root(), b.x.Root())
	if n, e := Steps(a.x, b.x); n != steps || e != api.Fine {
		t.Fatal("from", a.l, "to", b.l, "looked at", n, e, "not", steps)
	}
}

// checkDone: the changes make the one tree the other one.
func checkDone(t *testing.T, a, b version) {
	t.Helper()
	changes, _ := Changes(a.x, b.x)
	if l := plainDone(a.l, changes); !slices.EqualFunc(l, b.l, sameEntry) {
		t.Fatal("from", a.l, "to", b.l, "come to", l)
	}
}

// checkSteps asks for the steps alone, in both directions.
func checkSteps(t *testing.T, a, b *tree.Tree, want int) {
	t.Helper()
	if n, e := Steps(a, b); n != want || e != api.Fine {
		t.Error("looked at", n, e, "not", want)
	}
	if n, e := Steps(b, a); n != want || e != api.Fine {
		t.Error("looked at", n, e, "not", want, "the other way round")
	}
}

// P12.1: the chapter's example.

func TestExample(t *testing.T) {
	a := mustMake(t, 2, []api.Entry{at(3, 4, 0)})
	b := mustMake(t, 2, []api.Entry{at(5, 4, 0), at(1, 7, 3)})
	want := []api.Change{
		{P: []uint64{4, 0}, Had: true, Old: 3, Has: true, New: 5},
		{P: []uint64{7, 3}, Has: true, New: 1},
	}
	if l, e := Changes(a, b); e != api.Fine || !sameChanges(l, want) {
		t.Error(l, e)
	}
	if n, e := Count(a, b); n != 2 || e != api.Fine {
		t.Error(n, e)
	}
	if Same(a, b) || !Same(a, a) {
		t.Error("same")
	}
	// The roots, then the entry (4, 0) and b's kid there.
	checkSteps(t, a, b, 2)
	want = []api.Change{
		{P: []uint64{4, 0}, Had: true, Old: 5, Has: true, New: 3},
		{P: []uint64{7, 3}, Had: true, Old: 1},
	}
	if l, e := Changes(b, a); e != api.Fine || !sameChanges(l, want) {
		t.Error(l, e)
	}
}

// P12.1, P12.2, P12.3: all pairs of trees of four points, each of which has nothing, 0 or 1 there.

func TestAllOfFourPoints(t *testing.T) {
	for _, points := range [][][]uint64{
		{{0}, {1}, {2}, {3}},
		{{0, 0}, {0, 1}, {1, 0}, {1, 1}},
		{{0, 0}, {1, 1}, {2, 2}, {5, 6}},
		{{0}, {1}, {1 << 62}, {1 << 63}},
		{{4, 4, 4}, {4, 4, 5}, {4, 6, 4}, {12, 4, 4}},
	} {
		var versions []version
		for set := range 81 {
			var l []api.Entry
			for i, p := range points {
				if v := set / []int{1, 3, 9, 27}[i] % 3; v > 0 {
					l = append(l, at(uint64(v-1), p...))
				}
			}
			versions = append(versions, mustVersion(t, len(points[0]), inOrder(l)))
		}
		for _, a := range versions {
			for _, b := range versions {
				checkOneWay(t, a, b, plainChanges(a.l, b.l))
				checkDone(t, a, b)
			}
		}
	}
}

// P12.1, P12.2: all pairs of lists of points of three bits, with the same values, and with some nodes in common.

func TestAllOfThreeBits(t *testing.T) {
	versions := []version{mustVersion(t, 1, nil)}
	for c := range uint64(8) {
		for _, v := range slices.Clone(versions) {
			versions = append(versions, v.put(t, at(c%3, c)))
		}
	}
	for i, a := range versions {
		for _, b := range versions[i%5:] {
			checkOneWay(t, a, b, plainChanges(a.l, b.l))
		}
	}
}

// P12.1, P12.2, P12.3: any entries of each K, that part at levels at their ends and between: others, the same ones put anew, and versions behind one another.

func TestAnyEntries(t *testing.T) {
	for k := 1; k <= 16; k++ {
		n := chance(k)
		for _, level := range []int{0, 1, 5, 31, 62, 63} {
			a := mustVersion(t, k, n.entries(k, level, 1+n.below(30)))
			b := mustVersion(t, k, n.entries(k, level, 1+n.below(30)))
			c := mustVersion(t, k, n.entries(k, n.below(64), 1+n.below(30)))
			checkDiff(t, a, b)
			checkDiff(t, a, c)
			checkDone(t, a, b)
			checkDiff(t, a, mustVersion(t, k, a.l))
			last := a
			for range 8 {
				last = changed(t, &n, last, k, level)
				checkDiff(t, a, last)
				checkDiff(t, b, last)
				checkDone(t, a, last)
			}
			checkDiff(t, last, mustVersion(t, k, last.l))
		}
	}
}

// changed is another version: one without an entry, or with another value, or another point.
func changed(t *testing.T, n *chance, v version, k, level int) version {
	t.Helper()
	if len(v.l) > 0 && n.below(3) == 0 {
		return v.del(t, n.below(len(v.l)))
	}
	if len(v.l) > 0 && n.below(2) == 0 {
		return v.put(t, at(n.value(), v.l[n.below(len(v.l))].P...))
	}
	return v.put(t, at(n.value(), n.point(k, level)...))
}

// P12.1, P12.2: trees without entries, and with one.

func TestNoneAndOne(t *testing.T) {
	for k := 1; k <= 16; k++ {
		none, other := mustVersion(t, k, nil), mustVersion(t, k, nil)
		checkDiff(t, none, none)
		checkDiff(t, none, other)
		checkSteps(t, none.x, other.x, 0)
		for _, c := range []uint64{0, 1, 5, 1<<63 - 1, 1 << 63, math.MaxUint64} {
			one := none.put(t, at(c, all(k, c)...))
			again := other.put(t, at(c, all(k, c)...))
			unlike := none.put(t, at(c+1, all(k, c)...))
			beside := none.put(t, at(c, all(k, c^1)...))
			last := one.l[0]
			last.P = slices.Clone(last.P)
			last.P[k-1] ^= 1 << 63
			far := none.put(t, last)
			for _, v := range []version{none, again, unlike, beside, far} {
				checkDiff(t, one, v)
				checkSteps(t, one.x, v.x, 1)
			}
			checkSteps(t, one.x, one.x, 0)
			checkDiff(t, one, one.put(t, beside.l[0]))
			checkDiff(t, none, one.put(t, last))
			checkSteps(t, none.x, one.put(t, last).x, 1)
		}
	}
}

// P12.1: a value that is 0 isn't one that isn't there.

func TestZeroAndNothing(t *testing.T) {
	for k := 1; k <= 16; k++ {
		p, q := all(k, 0), all(k, 9)
		none := mustVersion(t, k, nil)
		zero := none.put(t, at(0, p...))
		one := none.put(t, at(1, p...))
		if l, e := Changes(none.x, zero.x); e != api.Fine || !sameChanges(l, []api.Change{{P: p, Has: true}}) {
			t.Error(l, e)
		}
		if l, e := Changes(zero.x, none.x); e != api.Fine || !sameChanges(l, []api.Change{{P: p, Had: true}}) {
			t.Error(l, e)
		}
		if l, e := Changes(zero.x, one.x); e != api.Fine || !sameChanges(l, []api.Change{{P: p, Had: true, Has: true, New: 1}}) {
			t.Error(l, e)
		}
		if l, e := Changes(one.x, zero.x); e != api.Fine || !sameChanges(l, []api.Change{{P: p, Had: true, Old: 1, Has: true}}) {
			t.Error(l, e)
		}
		if Same(none.x, zero.x) || Same(zero.x, none.x) || Same(zero.x, one.x) {
			t.Error("same")
		}
		// The sums but the count are those of one entry, too.
		checkDiff(t, zero, zero.put(t, at(0, q...)))
		checkDiff(t, one.put(t, at(0, q...)), zero.put(t, at(1, q...)))
		checkDiff(t, one, zero.put(t, at(1, q...)))
	}
}

// P12.1, P12.2: two trees of the same entries without a node in common: each pair of their nodes is looked at.

func TestNothingInCommon(t *testing.T) {
	for k := 1; k <= 16; k++ {
		n := chance(900 + k)
		for _, level := range []int{0, 7, 63} {
			l := n.entries(k, level, 40)
			a := mustVersion(t, k, l)
			back := slices.Clone(l)
			slices.Reverse(back)
			b := version{x: mustMake(t, k, back), l: l}
			checkDiff(t, a, b)
			checkSteps(t, a.x, b.x, len(a.x.Shapes()))
			// The very same root, in a tree of its own.
			of, e := tree.Of(k, a.x.Root())
			if e != api.Fine || of == a.x {
				t.Fatal(e)
			}
			checkDiff(t, a, version{x: of, l: l})
			checkSteps(t, a.x, of, 0)
		}
	}
}

// P12.2: nodes of unlike levels, of which one covers the other one's prefix, or doesn't; the pairs are counted by hand.

func TestUnlikeLevels(t *testing.T) {
	for _, c := range []struct {
		a, b           []uint64
		steps, changes int
	}{
		// One level, one prefix: each kid as well.
		{[]uint64{1, 2, 4}, []uint64{1, 2, 4}, 5, 0},
		// One level, unlike prefixes.
		{[]uint64{0, 1}, []uint64{8, 9}, 1, 4},
		// The levels 0 and 2, 2 and 0: neither covers the other one's prefix.
		{[]uint64{0, 1}, []uint64{8, 12}, 1, 4},
		{[]uint64{8, 12}, []uint64{16, 17}, 1, 4},
		{[]uint64{8, 15}, []uint64{16, 24}, 1, 4},
		// An entry, and a node that doesn't cover it.
		{[]uint64{5}, []uint64{8, 9}, 1, 3},
		// The level 3 covers, and its kid at 0 is the entry 0, which the level 0 covers.
		{[]uint64{0, 1}, []uint64{0, 8}, 3, 2},
		// The level 1 covers, and its kid there is made of other nodes of the same entries.
		{[]uint64{0, 1, 2, 3}, []uint64{2, 3}, 4, 2},
		{[]uint64{0, 1, 8}, []uint64{0, 1}, 4, 1},
		// The level 4, then the level 3 of the other one covers, and what they have there is the same entries.
		{[]uint64{0, 1, 16}, []uint64{0, 1, 8}, 5, 2},
		// The greater level covers, but its kid there is beside the other one.
		{[]uint64{0, 4}, []uint64{2, 3}, 2, 4},
		{[]uint64{0, 15}, []uint64{4, 5}, 2, 4},
		{[]uint64{8, 15}, []uint64{0, 16}, 2, 4},
		{[]uint64{8, 15}, []uint64{16, 32}, 2, 4},
		{[]uint64{5}, []uint64{4, 7}, 2, 3},
		// An entry that the other one has, too.
		{[]uint64{5}, []uint64{5, 9}, 2, 1},
		// The highest level covers all.
		{[]uint64{0, 1 << 63}, []uint64{0, 1}, 3, 2},
		{[]uint64{0, 1 << 63}, []uint64{1<<63 + 2, 1<<63 + 3}, 2, 4},
		{[]uint64{0, 1 << 63}, []uint64{1 << 62}, 2, 3},
	} {
		a, b := onesOf(t, 1, c.a), onesOf(t, 1, c.b)
		checkDiff(t, a, b)
		checkSteps(t, a.x, b.x, c.steps)
		if n, _ := Count(a.x, b.x); n != c.changes {
			t.Error(c, n)
		}
	}
}

// P12.2: at the address of the other one's prefix there is no kid: one pair more, of that and none.

func TestNoKidThere(t *testing.T) {
	for k := 2; k <= 16; k++ {
		for _, level := range []int{1, 30, 63} {
			far := uint64(1) << level
			a := mustVersion(t, k, inOrder([]api.Entry{at(1, all(k, 0)...), at(2, all(k, far)...)}))
			p, q := all(k, 0), all(k, 0)
			p[0], q[0] = far, far
			q[k-1] = 1
			// b's root is at the level 0, or an entry, where the root of a has no kid.
			b := mustVersion(t, k, []api.Entry{at(3, p...), at(4, q...)})
			checkDiff(t, a, b)
			checkSteps(t, a.x, b.x, 2)
			c := mustVersion(t, k, []api.Entry{at(3, p...)})
			checkDiff(t, a, c)
			checkSteps(t, a.x, c.x, 2)
			// Kids of one level and one prefix at unlike addresses: 1, and 2 of each.
			d := mustVersion(t, k, inOrder([]api.Entry{at(3, p...), at(4, all(k, far-1)...)}))
			checkDiff(t, a, d)
			checkSteps(t, a.x, d.x, 4)
		}
	}
}

// P12.2: what is the very same isn't looked at, wherever the one has it.

func TestTheVerySame(t *testing.T) {
	for k := 1; k <= 16; k++ {
		n := chance(70 + k)
		a := mustVersion(t, k, n.entries(k, 20, 40))
		for _, addr := range a.x.Root().Shape().Places {
			kid := a.x.Root().Kid(addr)
			of, _ := tree.Of(k, kid)
			part := slices.DeleteFunc(slices.Clone(a.l), func(entry api.Entry) bool { return !kid.Covers(entry.P) })
			b := version{x: of, l: part}
			// The root covers its kid's prefix.
			checkDiff(t, a, b)
			checkSteps(t, a.x, b.x, 1)
			if _, is := kid.Entry(); !is {
				// Below it all is the same but one value: its way is looked at.
				c := b.put(t, at(12345, part[0].P...))
				path, _ := c.x.Path(part[0].P)
				checkDiff(t, a, c)
				checkSteps(t, a.x, c.x, 1+len(path))
			}
		}
	}
}

// onesOf has the value 7 at some points, all of whose coordinates are the same.
func onesOf(t *testing.T, k int, coordinates []uint64) version {
	t.Helper()
	var l []api.Entry
	for _, c := range coordinates {
		l = append(l, at(7, all(k, c)...))
	}
	return mustVersion(t, k, l)
}

// P12.3: a tree behind one put, or one Del, however long the way is.

func TestOnePutOrDel(t *testing.T) {
	for _, k := range []int{1, 2, 16} {
		for _, ground := range []uint64{0, math.MaxUint64, 0x5555555555555555} {
			l := []api.Entry{at(99, all(k, ground)...)}
			for level := range 64 {
				q := all(k, ground)
				q[level%k] ^= 1 << level
				l = append(l, at(uint64(level), q...))
			}
			a := mustVersion(t, k, inOrder(l))
			most := 0
			for i, entry := range a.l {
				b := a.del(t, i)
				c := b.put(t, entry)
				d := a.put(t, at(7777, entry.P...))
				for _, pair := range [][2]version{{a, b}, {b, c}, {a, d}} {
					n, _ := Steps(pair[0].x, pair[1].x)
					if n > 66 || n != plainSteps(pair[0].x.Root(), pair[1].x.Root()) {
						t.Fatal(k, ground, entry, n)
					}
					most = max(most, n)
					if i%5 == 0 || n > 62 {
						checkDiff(t, pair[0], pair[1])
					}
				}
				checkDiff(t, a, c)
			}
			// All 65 nodes of the longest path.
			if most != 65 {
				t.Error(k, ground, most)
			}
		}
	}
}

// P12.3: one put, or one Del, in trees of any entries; and what is put there already.

func TestOneChange(t *testing.T) {
	for k := 1; k <= 16; k++ {
		n := chance(40 + k)
		for _, level := range []int{0, 9, 63} {
			a := mustVersion(t, k, n.entries(k, level, 60))
			for range 12 {
				b := changed(t, &n, a, k, level)
				checkDiff(t, a, b)
				if steps, _ := Steps(a.x, b.x); steps > 66 {
					t.Fatal(k, level, steps)
				}
				if b.x != a.x {
					if count, _ := Count(a.x, b.x); count != 1 {
						t.Fatal(k, level, count)
					}
				}
			}
			same := a.put(t, a.l[0])
			checkDiff(t, a, same)
			checkSteps(t, a.x, same.x, 0)
		}
	}
}

// P12.1, P12.2: a node at each level, against the same one beside, and against some of its entries.

func TestLongWay(t *testing.T) {
	for _, k := range []int{1, 2, 16} {
		var l []api.Entry
		for level := range 64 {
			q := all(k, 0)
			q[level%k] = 1 << level
			l = append(l, at(uint64(level), q...))
		}
		l = append(inOrder(l), at(5, all(k, math.MaxUint64)...))
		a := mustVersion(t, k, inOrder(l))
		checkDiff(t, a, mustVersion(t, k, a.l))
		for step := 2; step < 30; step += 3 {
			var some []api.Entry
			for i := step; i < len(a.l); i += step {
				some = append(some, a.l[i])
			}
			checkDiff(t, a, mustVersion(t, k, some))
			checkDiff(t, mustVersion(t, k, a.l[:step]), mustVersion(t, k, a.l[step:]))
			checkDiff(t, mustVersion(t, k, a.l[:step]), mustVersion(t, k, a.l[step/2:]))
		}
	}
}

// P12.1, P12.2: nodes with kids at many addresses, kept densely and sparsely.

func TestManyKids(t *testing.T) {
	for _, k := range []int{1, 2, 3, 6, 7, 11, 16} {
		n := chance(400 + k)
		for _, level := range []int{0, 40, 63} {
			var few, many []api.Entry
			for i := range min(1<<k, 300) {
				addr := i * ((1 << k) / min(1<<k, 300))
				p := make([]uint64, k)
				for j := range p {
					p[j] = uint64(addr>>(k-1-j)&1) << level
				}
				entry := at(n.value(), p...)
				if n.below(8) == 0 {
					few = append(few, at(n.value(), p...))
				}
				if n.below(8) > 0 {
					many = append(many, entry)
				}
			}
			a, b := mustVersion(t, k, few), mustVersion(t, k, many)
			checkDiff(t, a, b)
			c := b
			for range 5 {
				c = c.put(t, at(n.value(), n.point(k, 1)...))
			}
			checkDiff(t, b, c)
			checkDiff(t, a, c)
		}
	}
}

// P12.1, P12.2: the first and the last address of all, with many between.

func TestAddressesAtTheEnds(t *testing.T) {
	for _, c := range [][2]int{{10, 1}, {16, 51}} {
		k, far := c[0], c[1]
		for _, level := range []int{0, 63} {
			var l []api.Entry
			end := 1<<k - 1
			for addr := 0; addr <= end; addr += far {
				p := make([]uint64, k)
				for j := range p {
					p[j] = uint64(addr>>(k-1-j)&1) << level
				}
				l = append(l, at(uint64(addr), p...))
			}
			a := mustVersion(t, k, l)
			none := mustVersion(t, k, nil)
			if n, e := Count(none.x, a.x); n != len(l) || n < 1024 || e != api.Fine {
				t.Fatal(n, e)
			}
			p, q := all(k, 0), all(k, 1<<level)
			b := a.put(t, at(9, p...)).del(t, len(l)-1)
			want := []api.Change{{P: p, Had: true, Has: true, New: 9}, {P: q, Had: true, Old: uint64(end)}}
			if got, e := Changes(a.x, b.x); e != api.Fine || !sameChanges(got, want) {
				t.Error(k, level, got, e)
			}
			checkSteps(t, a.x, b.x, 3)
			checkDiff(t, a, b)
			checkDiff(t, none, b)
		}
	}
}

// P12.1: Same stops where the first thing isn't the same, and the others go on to the end.

func TestWhereItStops(t *testing.T) {
	a := onesOf(t, 1, []uint64{0, 1, 2, 3, 4, 5, 6, 7})
	b := onesOf(t, 1, []uint64{1, 3, 5, 7})
	told := 0
	l := lockstep{tell: func(_, _ *node.Node) bool {
		told++
		return told < 2
	}}
	l.through(a.x.Root(), b.x.Root())
	if told != 2 {
		t.Error(told)
	}
	checkDiff(t, a, b)
}

// Wrong inputs: what is refused, with the first error that holds.

// checkRefused asks all calls, and nothing but the code may be told.
func checkRefused(t *testing.T, a, b *tree.Tree, want api.Code) {
	t.Helper()
	if l, e := Changes(a, b); len(l) != 0 || e != want {
		t.Error("changes", l, e, "not", want)
	}
	if n, e := Count(a, b); n != 0 || e != want {
		t.Error("count", n, e, "not", want)
	}
	if n, e := Steps(a, b); n != 0 || e != want {
		t.Error("steps", n, e, "not", want)
	}
}

func TestNil(t *testing.T) {
	checkRefused(t, nil, nil, api.Nil)
	if !Same(nil, nil) {
		t.Error("two nil ones aren't the same")
	}
	for k := 1; k <= 16; k++ {
		for _, l := range [][]api.Entry{nil, {at(7, all(k, 0)...)}, {at(7, all(k, 0)...), at(8, all(k, math.MaxUint64)...)}} {
			x := mustMake(t, k, l)
			checkRefused(t, nil, x, api.Nil)
			checkRefused(t, x, nil, api.Nil)
			if Same(nil, x) || Same(x, nil) {
				t.Error("a nil one is the same")
			}
		}
	}
}

func TestUnlikeK(t *testing.T) {
	for k := 1; k <= 16; k++ {
		for other := 1; other <= 16; other++ {
			if other == k {
				continue
			}
			for _, n := range []int{0, 1, 2} {
				a := onesOf(t, k, []uint64{0, 9}[:n])
				for _, m := range []int{0, 1, 2} {
					b := onesOf(t, other, []uint64{0, 9}[:m])
					checkRefused(t, a.x, b.x, api.Dim)
					if Same(a.x, b.x) {
						t.Error(k, other, "same")
					}
				}
			}
		}
	}
}

// A tree that no call made has K 0, and no entries.

func TestNotMade(t *testing.T) {
	checkDiff(t, version{x: new(tree.Tree)}, version{x: new(tree.Tree)})
	for k := 1; k <= 16; k++ {
		x := mustMake(t, k, nil)
		checkRefused(t, new(tree.Tree), x, api.Dim)
		checkRefused(t, x, new(tree.Tree), api.Dim)
		if Same(x, new(tree.Tree)) {
			t.Error(k, "same")
		}
	}
	checkRefused(t, nil, new(tree.Tree), api.Nil)
	checkRefused(t, new(tree.Tree), nil, api.Nil)
}

// R4: trees stay as they are, and what is told is the caller's.

func TestVersionsStay(t *testing.T) {
	n := chance(11)
	a := mustVersion(t, 3, n.entries(3, 9, 40))
	b := a.del(t, 3).put(t, at(8, 1, 2, 3)).put(t, at(33, a.l[7].P...))
	shapes := [][]api.Shape{a.x.Shapes(), b.x.Shapes()}
	for range 2 {
		l, _ := Changes(a.x, b.x)
		again, _ := Changes(a.x, b.x)
		if len(l) != 3 {
			t.Fatal(l)
		}
		for i := range l {
			clear(l[i].P)
			_ = append(l[i].P, 1)
		}
		clear(l)
		if !sameChanges(again, plainChanges(a.l, b.l)) {
			t.Error("two answers share what they have", again)
		}
	}
	checkDiff(t, a, b)
	if !reflect.DeepEqual(shapes, [][]api.Shape{a.x.Shapes(), b.x.Shapes()}) {
		t.Error("a tree has become another one")
	}
}

// R4: no two points of one answer share what they have.

func TestPointsApart(t *testing.T) {
	a := onesOf(t, 2, []uint64{0, 1, 2, 3})
	b := onesOf(t, 2, []uint64{2, 3, 4, 5}).put(t, at(1, 3, 3))
	l, _ := Changes(a.x, b.x)
	want := plainChanges(a.l, b.l)
	for i := range l {
		if !sameChange(l[i], want[i]) {
			t.Fatal(i, l[i], want[i])
		}
		_ = append(l[i].P, 77)
		clear(l[i].P)
	}
	checkDiff(t, a, b)
}

// P12.1, P12.2, P12.3: many entries, and many changes one after the other.

func TestManyEntries(t *testing.T) {
	for _, k := range []int{1, 2, 3, 16} {
		for _, side := range []int{50, 1 << 12} {
			n := chance(300 + k + side)
			var l []api.Entry
			for range 2000 {
				l = append(l, at(n.value(), n.grid(k, side)...))
			}
			a := mustVersion(t, k, inOrder(l))
			b := a
			for i := range 60 {
				if i%3 == 0 {
					b = b.del(t, n.below(len(b.l)))
				} else {
					b = b.put(t, at(n.value(), n.grid(k, side)...))
				}
			}
			checkDiff(t, a, b)
			checkDone(t, a, b)
			checkDiff(t, a, mustVersion(t, k, a.l))
		}
	}
}
