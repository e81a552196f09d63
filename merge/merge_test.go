package merge

import (
	"math"
	"reflect"
	"slices"
	"testing"

	"pantile/api"
	"pantile/diff"
	"pantile/edit"
	"pantile/node"
	"pantile/tree"
	"pantile/walk"
)

var rules = []int{Ours, Theirs, Base, Neither, Greater}

// chance makes numbers that look like chance, and are the same in each run.
type chance uint64

func (n *chance) below(most int) int {
	*n = *n*6364136223846793005 + 1442695040888963407
	return int(uint64(*n)>>33) % most
}

// point is a point whose bits above a level are those of all others.
func (n *chance) point(k, level int) []uint64 {
	p := all(k, 0xA5A5A5A5A5A5A5A5)
	for i := range p {
		for range 1 + n.below(2) {
			p[i] ^= 1 << n.below(level+1)
		}
	}
	return p
}

// value is one of few values, 0 often, or a great one.
func (n *chance) value() uint64 {
	if n.below(3) > 0 {
		return uint64(n.below(3))
	}
	return math.MaxUint64 - uint64(n.below(3))
}

// entries are up to most entries with unlike points, that part at a level, or below, in z-order.
func (n *chance) entries(k, level, most int) []api.Entry {
	var l []api.Entry
	for range most {
		l = append(l, at(n.value(), n.point(k, level)...))
	}
	return inOrder(l)
}

// changed is another version, so many steps away: some entries are gone, some have another value, some are new.
func (n *chance) changed(t *testing.T, v version, level, steps int) version {
	t.Helper()
	for range steps {
		switch {
		case len(v.l) > 0 && n.below(3) == 0:
			v = v.del(t, v.l[n.below(len(v.l))].P)
		case len(v.l) > 0 && n.below(2) == 0:
			v = v.put(t, at(n.value(), v.l[n.below(len(v.l))].P...))
		default:
			v = v.put(t, at(n.value(), n.point(v.x.K(), level)...))
		}
	}
	return v
}

// at is an entry.
func at(v uint64, p ...uint64) api.Entry {
	return api.Entry{P: p, V: v}
}

// all has the same coordinate K times.
func all(k int, c uint64) []uint64 {
	return slices.Repeat([]uint64{c}, k)
}

// Plain readings: bit by bit, point by point, as the chapter says it.

// plainCmp goes down from the highest level to the first one at which the addresses aren't the same.
func plainCmp(p, q []uint64) int {
	for level := 63; level >= 0; level-- {
		for i, c := range p {
			if a, b := c>>level&1, q[i]>>level&1; a != b {
				return int(a) - int(b)
			}
		}
	}
	return 0
}

// inOrder are the entries in z-order, one of each point.
func inOrder(l []api.Entry) []api.Entry {
	l = slices.Clone(l)
	slices.SortStableFunc(l, func(x, y api.Entry) int { return plainCmp(x.P, y.P) })
	return slices.CompactFunc(l, func(x, y api.Entry) bool { return slices.Equal(x.P, y.P) })
}

func hasPoint(l []api.Entry, p []uint64) bool {
	return slices.ContainsFunc(l, func(entry api.Entry) bool { return slices.Equal(entry.P, p) })
}

// thing is what a point has: a value, or nothing.
type thing struct {
	is bool
	v  uint64
}

// thingsOf tells what each point of a list has.
func thingsOf(l []api.Entry) map[[api.MaxK]uint64]thing {
	things := map[[api.MaxK]uint64]thing{}
	for _, entry := range l {
		things[key(entry.P)] = thing{is: true, v: entry.V}
	}
	return things
}

// key is a point as the key of a map, where all points have one K.
func key(p []uint64) [api.MaxK]uint64 {
	var k [api.MaxK]uint64
	copy(k[:], p)
	return k
}

// plainBy is what a clash is by a rule.
func plainBy(rule int, o, a, b thing) thing {
	switch rule {
	case 1:
		return a
	case 2:
		return b
	case 3:
		return o
	case 5:
		if !a.is || b.is && b.v > a.v {
			return b
		}
		return a
	}
	return thing{}
}

// plain is what is to be told of three lists: what is at each point, but clashes, and these.
type plain struct {
	k       int
	l       []api.Entry
	clashes []api.Clash
}

// plainMerge asks the three lists for each of their points.
func plainMerge(o, a, b version) plain {
	out := plain{k: o.x.K()}
	hasO, hasA, hasB := thingsOf(o.l), thingsOf(a.l), thingsOf(b.l)
	for _, entry := range inOrder(slices.Concat(o.l, a.l, b.l)) {
		p := entry.P
		inO, inA, inB := hasO[key(p)], hasA[key(p)], hasB[key(p)]
		is := thing{}
		if inA == inB {
			is = inA
		} else if inA == inO {
			is = inB
		} else if inB == inO {
			is = inA
		} else {
			out.clashes = append(out.clashes, api.Clash{P: p, InO: inO.is, InA: inA.is, InB: inB.is, O: inO.v, A: inA.v, B: inB.v})
		}
		if is.is {
			out.l = append(out.l, at(is.v, p...))
		}
	}
	return out
}

// by are the entries, where clashes are by a rule.
func (x plain) by(rule int) []api.Entry {
	l := x.l
	for _, c := range x.clashes {
		is := plainBy(rule, thing{is: c.InO, v: c.O}, thing{is: c.InA, v: c.A}, thing{is: c.InB, v: c.B})
		if is.is {
			l = append(slices.Clip(l), at(is.v, c.P...))
		}
	}
	return inOrder(l)
}

// swapped is what is to be told with A and B swapped.
func (x plain) swapped() plain {
	x.clashes = swapped(x.clashes)
	return x
}

// swapped are the clashes with both sides swapped.
func swapped(l []api.Clash) []api.Clash {
	var out []api.Clash
	for _, c := range l {
		c.InA, c.A, c.InB, c.B = c.InB, c.B, c.InA, c.A
		out = append(out, c)
	}
	return out
}

func sameEntry(x, y api.Entry) bool {
	return x.V == y.V && slices.Equal(x.P, y.P)
}

func sameClash(x, y api.Clash) bool {
	return slices.Equal(x.P, y.P) && x.InO == y.InO && x.InA == y.InA && x.InB == y.InB && x.O == y.O && x.A == y.A && x.B == y.B
}

func sameClashes(x, y []api.Clash) bool {
	return slices.EqualFunc(x, y, sameClash)
}

// version is a tree, and its entries in z-order.
type version struct {
	x *tree.Tree
	l []api.Entry
}

// mustVersion puts entries one after the other.
func mustVersion(t *testing.T, k int, l ...api.Entry) version {
	t.Helper()
	x, e := tree.New(k)
	if e != api.Fine {
		t.Fatal("new", k, e)
	}
	for _, entry := range l {
		if x, e = x.Put(entry.P, entry.V); e != api.Fine {
			t.Fatal("put", entry, e)
		}
	}
	return version{x: x, l: walk.All(x.Root())}
}

// put is the version with an entry.
func (v version) put(t *testing.T, entry api.Entry) version {
	t.Helper()
	x, e := v.x.Put(entry.P, entry.V)
	if e != api.Fine {
		t.Fatal("put", entry, e)
	}
	return version{x: x, l: inOrder(append([]api.Entry{entry}, v.l...))}
}

// del is the version without a point.
func (v version) del(t *testing.T, p []uint64) version {
	t.Helper()
	x, e := v.x.Del(p)
	if e != api.Fine {
		t.Fatal("del", p, e)
	}
	return version{x: x, l: slices.DeleteFunc(slices.Clone(v.l), func(entry api.Entry) bool { return slices.Equal(entry.P, p) })}
}

// apart is the same version, put anew from the last entry on, so that no node is in common.
func (v version) apart(t *testing.T) version {
	t.Helper()
	l := slices.Clone(v.l)
	slices.Reverse(l)
	return mustVersion(t, v.x.K(), l...)
}

// Checks.

// checkTree: the tree has the entries, and the nodes that these have whatever came first.
func checkTree(t *testing.T, x *tree.Tree, k int, want []api.Entry) {
	t.Helper()
	if x == nil {
		t.Fatal("no tree of", want)
	}
	if got := walk.All(x.Root()); x.K() != k || x.Len() != len(want) || !slices.EqualFunc(got, want, sameEntry) {
		t.Fatal("merged", got, "of", x.K(), "not", want)
	}
	if again := mustVersion(t, k, want...).x; !reflect.DeepEqual(x.Shapes(), again.Shapes()) || x.Root().Sums() != again.Root().Sums() {
		t.Fatal("merged", x.Shapes(), "not", again.Shapes())
	}
}

// checkMerge: all three calls tell what is read plainly, with A and B swapped, too; nothing that was handed in has become another thing.
func checkMerge(t *testing.T, o, a, b version) {
	t.Helper()
	want := plainMerge(o, a, b)
	checkOneWay(t, o.x, a.x, b.x, want)
	checkOneWay(t, o.x, b.x, a.x, want.swapped())
	for _, v := range []version{o, a, b} {
		if got := walk.All(v.x.Root()); !slices.EqualFunc(got, v.l, sameEntry) {
			t.Fatal("what was handed in has become another one", got, "not", v.l)
		}
	}
}

func checkOneWay(t *testing.T, o, a, b *tree.Tree, want plain) {
	t.Helper()
	if got, e := Clashes(o, a, b); e != api.Fine || !sameClashes(got, want.clashes) {
		t.Fatal("clash", got, e, "not", want.clashes)
	}
	x, got, e := Three(o, a, b)
	if len(want.clashes) > 0 && (x != nil || e != api.Conflict || !sameClashes(got, want.clashes)) {
		t.Fatal("merged", x, got, e, "not", want.clashes)
	}
	if len(want.clashes) == 0 {
		if e != api.Fine || len(got) != 0 {
			t.Fatal("merged", got, e)
		}
		checkTree(t, x, want.k, want.l)
	}
	for _, rule := range rules {
		x, n, e := By(o, a, b, rule)
		if n != len(want.clashes) || e != api.Fine {
			t.Fatal("by", rule, n, e, "not", len(want.clashes))
		}
		checkTree(t, x, want.k, want.by(rule))
	}
}

// checkVery: each call that makes a tree tells this very one.
func checkVery(t *testing.T, want, o, a, b *tree.Tree) {
	t.Helper()
	if x, l, e := Three(o, a, b); x != want || len(l) != 0 || e != api.Fine {
		t.Error("not the very same tree", walk.All(x.Root()), l, e)
	}
	for _, rule := range rules {
		if x, n, e := By(o, a, b, rule); x != want || n != 0 || e != api.Fine {
			t.Error("not the very same tree by", rule, walk.All(x.Root()), n, e)
		}
	}
	if l, e := Clashes(o, a, b); len(l) != 0 || e != api.Fine {
		t.Error(l, e)
	}
}

// through tells all nodes from n down.
func through(n *node.Node, tell func(n *node.Node)) {
	if n == nil {
		return
	}
	tell(n)
	for _, addr := range n.Shape().Places {
		through(n.Kid(addr), tell)
	}
}

// nodesOf are the nodes of some trees.
func nodesOf(trees ...*tree.Tree) map[*node.Node]bool {
	nodes := map[*node.Node]bool{}
	for _, x := range trees {
		through(x.Root(), func(n *node.Node) { nodes[n] = true })
	}
	return nodes
}

// The chapter's example.

func TestExample(t *testing.T) {
	o := mustVersion(t, 2, at(3, 4, 0), at(9, 1, 1))
	a := o.put(t, at(5, 4, 0))
	b := o.del(t, []uint64{4, 0})
	want := []api.Clash{{P: []uint64{4, 0}, InO: true, O: 3, InA: true, A: 5}}
	if l, e := Clashes(o.x, a.x, b.x); e != api.Fine || !sameClashes(l, want) {
		t.Error(l, e)
	}
	if x, l, e := Three(o.x, a.x, b.x); x != nil || e != api.Conflict || !sameClashes(l, want) {
		t.Error(x, l, e)
	}
	x, n, e := By(o.x, a.x, b.x, Greater)
	if v, is, _ := x.Get([]uint64{4, 0}); v != 5 || !is || n != 1 || e != api.Fine {
		t.Error(v, is, n, e)
	}
	want = []api.Clash{{P: []uint64{4, 0}, InO: true, O: 3, InB: true, B: 5}}
	if x, l, e := Three(o.x, b.x, a.x); x != nil || e != api.Conflict || !sameClashes(l, want) {
		t.Error(x, l, e)
	}
}

func TestRulesAsWritten(t *testing.T) {
	if Ours != 1 || Theirs != 2 || Base != 3 || Neither != 4 || Greater != 5 {
		t.Error(rules)
	}
}

// P14.1: each of the five rules at each kind of clash, by hand.

func TestKindsOfClash(t *testing.T) {
	no, is := thing{}, func(v uint64) thing { return thing{is: true, v: v} }
	const top = math.MaxUint64
	for i, c := range []struct {
		o, a, b, greater thing
	}{
		{is(3), is(5), no, is(5)},
		{is(3), no, is(5), is(5)},
		{is(3), is(5), is(4), is(5)},
		{is(3), is(4), is(5), is(5)},
		{is(9), is(4), is(5), is(5)},
		{no, is(4), is(5), is(5)},
		{no, is(5), is(4), is(5)},
		{is(top), is(0), no, is(0)},
		{is(1), no, is(0), is(0)},
		{is(1), is(0), no, is(0)},
		{no, is(0), is(1), is(1)},
		{no, is(1), is(0), is(1)},
		{is(0), is(1), no, is(1)},
		{is(0), no, is(1), is(1)},
		{is(0), is(1), is(2), is(2)},
		{is(2), is(0), is(1), is(1)},
		{is(0), is(1 << 63), is(1<<63 - 1), is(1 << 63)},
		{is(1), is(top), is(0), is(top)},
	} {
		for k := 1; k <= 16; k++ {
			p := all(k, 5)
			o, a, b := treeWith(t, p, c.o), treeWith(t, p, c.a), treeWith(t, p, c.b)
			want := []api.Clash{{P: p, InO: c.o.is, InA: c.a.is, InB: c.b.is, O: c.o.v, A: c.a.v, B: c.b.v}}
			if x, l, e := Three(o, a, b); x != nil || !sameClashes(l, want) || e != api.Conflict {
				t.Error(i, k, x, l, e)
			}
			if l, e := Clashes(o, a, b); !sameClashes(l, want) || e != api.Fine {
				t.Error(i, k, l, e)
			}
			for j, want := range []thing{c.a, c.b, c.o, {}, c.greater} {
				x, n, e := By(o, a, b, rules[j])
				v, is, _ := x.Get(p)
				if (thing{is: is, v: v}) != want || n != 1 || e != api.Fine {
					t.Error(i, k, "by", rules[j], v, is, n, e, "not", want)
				}
			}
		}
	}
}

// treeWith is a tree of just what one point has.
func treeWith(t *testing.T, p []uint64, x thing) *tree.Tree {
	t.Helper()
	if !x.is {
		return mustVersion(t, len(p)).x
	}
	return mustVersion(t, len(p), at(x.v, p...)).x
}

// P14.1: what never clashes, by hand: the same on both sides, and what one side alone changed.

func TestKindsOfPeace(t *testing.T) {
	no, is := thing{}, func(v uint64) thing { return thing{is: true, v: v} }
	for i, c := range []struct {
		o, a, b, want thing
	}{
		{no, is(0), is(0), is(0)},
		{no, is(7), is(7), is(7)},
		{is(7), no, no, no},
		{is(0), no, no, no},
		{is(7), is(8), is(8), is(8)},
		{is(7), is(0), is(0), is(0)},
		{is(7), is(7), is(8), is(8)},
		{is(7), is(8), is(7), is(8)},
		{is(7), is(7), no, no},
		{is(7), no, is(7), no},
		{is(0), is(0), no, no},
		{is(0), no, is(0), no},
		{no, no, is(0), is(0)},
		{no, is(0), no, is(0)},
		{is(0), is(0), is(0), is(0)},
		{no, no, no, no},
	} {
		for k := 1; k <= 16; k++ {
			p := all(k, 1<<63)
			o, a, b := treeWith(t, p, c.o), treeWith(t, p, c.a), treeWith(t, p, c.b)
			x, l, e := Three(o, a, b)
			v, is, _ := x.Get(p)
			if (thing{is: is, v: v}) != c.want || len(l) != 0 || e != api.Fine || x.Len() > 1 {
				t.Error(i, k, v, is, l, e)
			}
			if l, e := Clashes(o, a, b); len(l) != 0 || e != api.Fine {
				t.Error(i, k, l, e)
			}
			for _, rule := range rules {
				x, n, e := By(o, a, b, rule)
				v, is, _ := x.Get(p)
				if (thing{is: is, v: v}) != c.want || n != 0 || e != api.Fine {
					t.Error(i, k, "by", rule, v, is, n, e)
				}
			}
		}
	}
}

// P14.1, P14.2: all that three trees can have at one point, beside points that all have, one has, or one changed.

func TestOnePointBesideOthers(t *testing.T) {
	things := []thing{{}, {is: true}, {is: true, v: 1}, {is: true, v: 2}, {is: true, v: math.MaxUint64}}
	for _, k := range []int{1, 2, 16} {
		p := all(k, 6)
		base := mustVersion(t, k, at(1, all(k, 7)...), at(2, all(k, 1<<40)...), at(3, all(k, 0)...))
		left := base.put(t, at(5, all(k, 4)...)).put(t, at(9, all(k, 0)...))
		right := base.put(t, at(6, all(k, 1<<63)...)).del(t, all(k, 7))
		set := func(v version, x thing) version {
			if x.is {
				return v.put(t, at(x.v, p...))
			}
			return v
		}
		for _, o := range things {
			for _, a := range things {
				for _, b := range things {
					checkMerge(t, set(base, o), set(left, a), set(right, b))
					checkMerge(t, set(left, o), set(base, a), set(right, b))
				}
			}
		}
	}
}

// P14.1, P14.2: all that three trees can have at three points: nothing, 0 or 1.

func TestAllOfThreePoints(t *testing.T) {
	for _, points := range [][][]uint64{
		{{0}, {1}, {2}},
		{{0, 0}, {0, 1}, {1, 1}},
		{{4, 0}, {7, 3}, {0, 8}},
		{{0}, {1 << 62}, {1 << 63}},
		{{4, 4, 4}, {4, 6, 4}, {12, 4, 4}},
	} {
		var versions []version
		for set := range 27 {
			var l []api.Entry
			for i, p := range points {
				if v := set / []int{1, 3, 9}[i] % 3; v > 0 {
					l = append(l, at(uint64(v-1), p...))
				}
			}
			versions = append(versions, mustVersion(t, len(points[0]), l...))
		}
		for _, o := range versions {
			for i, a := range versions {
				for _, b := range versions[i:] {
					checkMerge(t, o, a, b)
				}
			}
		}
	}
}

// P14.1, P14.2: all trios of sets of four points, with the same values, versions of one another.

func TestAllOfFourPoints(t *testing.T) {
	for _, points := range [][][]uint64{
		{{0}, {1}, {2}, {3}},
		{{0, 0}, {0, 1}, {1, 0}, {1, 1}},
		{{0, 0}, {1, 1}, {2, 2}, {5, 6}},
		{{0}, {1}, {1 << 62}, {1 << 63}},
	} {
		versions := []version{mustVersion(t, len(points[0]))}
		for i, p := range points {
			for _, v := range slices.Clone(versions) {
				versions = append(versions, v.put(t, at(uint64(i), p...)))
			}
		}
		for _, o := range versions {
			for i, a := range versions {
				for _, b := range versions[i:] {
					checkMerge(t, o, a, b)
				}
			}
		}
	}
}

// P14.1, P14.2: any entries of each K, that part at levels at their ends and between: versions of one tree, the same ones put anew, and others.

func TestAnyEntries(t *testing.T) {
	for k := 1; k <= 16; k++ {
		n := chance(k)
		for _, level := range []int{0, 1, 5, 31, 62, 63} {
			o := mustVersion(t, k, n.entries(k, level, 1+n.below(30))...)
			for range 3 {
				a := n.changed(t, o, level, n.below(12))
				b := n.changed(t, o, level, n.below(12))
				checkMerge(t, o, a, b)
				checkMerge(t, o, a.apart(t), b)
				checkMerge(t, o.apart(t), a, b)
				checkMerge(t, o.apart(t), a.apart(t), b.apart(t))
				checkMerge(t, o, a, n.changed(t, a, level, 3))
			}
			other := mustVersion(t, k, n.entries(k, level, 1+n.below(30))...)
			third := mustVersion(t, k, n.entries(k, n.below(64), 1+n.below(30))...)
			checkMerge(t, o, other, third)
			checkMerge(t, other, third, o)
			checkMerge(t, third, o, other)
		}
	}
}

// P14.1: trees without entries, and with one.

func TestNoneAndOne(t *testing.T) {
	for k := 1; k <= 16; k++ {
		versions := []version{mustVersion(t, k), mustVersion(t, k)}
		for _, c := range []uint64{0, 1, 1<<63 - 1, 1 << 63, math.MaxUint64} {
			versions = append(versions, mustVersion(t, k, at(c, all(k, c)...)), mustVersion(t, k, at(1, all(k, c)...)))
		}
		far := all(k, 1)
		far[k-1] ^= 1 << 63
		versions = append(versions, mustVersion(t, k, at(1, far...)))
		for _, o := range versions {
			for i, a := range versions {
				for _, b := range versions[i:] {
					checkMerge(t, o, a, b)
				}
			}
		}
		x, l, e := Three(versions[2].x, versions[0].x, versions[0].x)
		if x == nil || x.Root() != nil || x.K() != k || len(l) != 0 || e != api.Fine {
			t.Error(k, x, l, e)
		}
	}
}

// P14.2: three times the same tree, and two of three.

func TestTheVerySame(t *testing.T) {
	for k := 1; k <= 16; k++ {
		n := chance(30 + k)
		for _, level := range []int{0, 20, 63} {
			o := mustVersion(t, k, n.entries(k, level, 20)...)
			none, other := mustVersion(t, k), mustVersion(t, k)
			for _, v := range []version{n.changed(t, o, level, 5), o.apart(t), none, mustVersion(t, k, n.entries(k, level, 20)...)} {
				checkVery(t, v.x, o.x, o.x, v.x)
				checkVery(t, v.x, o.x, v.x, o.x)
				checkVery(t, v.x, o.x, v.x, v.x)
				checkVery(t, v.x, v.x, v.x, v.x)
				// It has the same root, but it isn't the very same tree.
				twin, _ := tree.Of(k, o.x.Root())
				checkVery(t, twin, o.x, o.x, twin)
				checkVery(t, twin, o.x, twin, o.x)
				if v.x.Root() != o.x.Root() {
					checkVery(t, v.x, o.x, twin, v.x)
					checkVery(t, v.x, twin, v.x, o.x)
				}
			}
			checkVery(t, other.x, none.x, none.x, other.x)
			checkVery(t, other.x, none.x, other.x, none.x)
			checkVery(t, other.x, o.x, other.x, other.x)
		}
	}
}

// P14.2: what one side did is a part of what the other one did: that other one's tree.

func TestOneBehindTheOther(t *testing.T) {
	for k := 1; k <= 16; k++ {
		p, q, r := all(k, 6), all(k, 9), all(k, 1<<50)
		o := mustVersion(t, k, at(1, p...), at(2, all(k, 7)...), at(3, all(k, 1<<40)...))
		a := o.put(t, at(8, p...))
		b := a.put(t, at(0, q...)).put(t, at(1, r...)).del(t, all(k, 7))
		checkVery(t, b.x, o.x, a.x, b.x)
		checkVery(t, b.x, o.x, b.x, a.x)
		c := a.del(t, p)
		again := o.del(t, p)
		if x, l, e := Three(o.x, c.x, again.x); e != api.Fine || len(l) != 0 || x != c.x {
			t.Error(k, l, e, "the same on both sides")
		}
	}
}

// P14.1: a rule tells the very same trees, where all that was changed clashes.

func TestTreesByRules(t *testing.T) {
	for k := 1; k <= 16; k++ {
		p, q := all(k, 6), all(k, 1<<50)
		o := mustVersion(t, k, at(1, p...), at(2, q...), at(3, all(k, 9)...))
		a := o.put(t, at(5, p...)).put(t, at(8, q...))
		b := o.put(t, at(6, p...)).put(t, at(7, q...))
		for i, want := range []*tree.Tree{a.x, b.x, o.x} {
			if x, n, e := By(o.x, a.x, b.x, rules[i]); x != want || n != 2 || e != api.Fine {
				t.Error(k, rules[i], n, e, "not the very same tree")
			}
		}
		x, _, _ := By(o.x, a.x, b.x, Greater)
		checkTree(t, x, k, inOrder([]api.Entry{at(6, p...), at(8, q...), at(3, all(k, 9)...)}))
		nodes := nodesOf(a.x, b.x)
		through(x.Root(), func(n *node.Node) {
			if _, is := n.Entry(); is && !nodes[n] {
				t.Error(k, "an entry was made anew")
			}
		})
	}
}

// T5: the one side's nodes, and the other one's, are in what is merged.

func TestHalves(t *testing.T) {
	for k := 1; k <= 16; k++ {
		n := chance(50 + k)
		o := mustVersion(t, k, at(1, all(k, 1<<63)...), at(2, all(k, 1<<63|5)...), at(3, all(k, 0)...), at(4, all(k, 5)...))
		a, b := o, o
		for range 30 {
			p, q := n.point(k, 61), n.point(k, 61)
			for i := range k {
				p[i] &^= 1 << 63
				q[i] |= 1 << 63
			}
			a = a.put(t, at(n.value(), p...))
			b = b.put(t, at(n.value(), q...))
		}
		x, l, e := Three(o.x, a.x, b.x)
		if e != api.Fine || len(l) != 0 {
			t.Fatal(k, l, e)
		}
		top := 1<<k - 1
		if x.Root().Kid(0) != a.x.Root().Kid(0) || x.Root().Kid(top) != b.x.Root().Kid(top) {
			t.Error(k, "a half was made anew")
		}
		checkMerge(t, o, a, b)
	}
}

// T5: no node is made anew whose entries one of the three has as a node; where each change is to what never was there.

func TestNodesInCommon(t *testing.T) {
	for k := 1; k <= 16; k++ {
		n := chance(70 + k)
		for _, level := range []int{0, 5, 63} {
			o := mustVersion(t, k, n.entries(k, level, 30)...)
			a, b := o, o
			for i := range 10 {
				a = a.put(t, at(uint64(1000+i), n.point(k, level)...))
				b = b.put(t, at(uint64(2000+i), n.point(k, level)...))
				if p := o.l[n.below(len(o.l))].P; hasPoint(a.l, p) {
					a = a.del(t, p)
				}
			}
			had := nodesOf(o.x, a.x, b.x)
			for _, rule := range rules {
				x, _, e := By(o.x, a.x, b.x, rule)
				if e != api.Fine {
					t.Fatal(k, e)
				}
				through(x.Root(), func(made *node.Node) {
					for was := range had {
						if !had[made] && reflect.DeepEqual(was.Shape(), made.Shape()) && slices.EqualFunc(walk.All(was), walk.All(made), sameEntry) {
							t.Fatal(k, level, rule, "the node of", walk.All(made), "was made anew")
						}
					}
				})
			}
		}
	}
}

// P14.1: clashes at every point, in z-order.

func TestClashesEverywhere(t *testing.T) {
	for k := 1; k <= 16; k++ {
		n := chance(90 + k)
		for _, level := range []int{0, 7, 63} {
			o := mustVersion(t, k, n.entries(k, level, 40)...)
			var l, m []api.Entry
			for _, entry := range o.l {
				l = append(l, at(entry.V+1, entry.P...))
				m = append(m, at(entry.V+2, entry.P...))
			}
			a, b, none := mustVersion(t, k, l...), mustVersion(t, k, m...), mustVersion(t, k)
			for _, trio := range [][3]version{{o, a, b}, {none, a, b}, {none, o, a}, {o, a, none}, {o, none, b}} {
				checkMerge(t, trio[0], trio[1], trio[2])
				if l, _ := Clashes(trio[0].x, trio[1].x, trio[2].x); len(l) != len(o.l) {
					t.Error(k, level, len(l), "not", len(o.l))
				}
			}
			if x, n, e := By(o.x, a.x, b.x, Neither); x.Root() != nil || n != len(o.l) || e != api.Fine {
				t.Error(k, level, n, e)
			}
			if x, n, e := By(o.x, a.x, b.x, Ours); x != a.x || n != len(o.l) || e != api.Fine {
				t.Error(k, level, n, e)
			}
		}
	}
}

// P14.1: one clash alone, wherever it is, beside much that doesn't clash.

func TestOneClash(t *testing.T) {
	for _, k := range []int{1, 2, 7, 16} {
		n := chance(110 + k)
		for _, level := range []int{0, 20, 63} {
			o := mustVersion(t, k, n.entries(k, level, 25)...)
			for i, entry := range o.l {
				a := o.put(t, at(entry.V+1, entry.P...))
				b := o.put(t, at(entry.V+2, entry.P...))
				if i%2 > 0 {
					b = o.del(t, entry.P)
				}
				for j, other := range o.l {
					if j != i && j%3 > 0 {
						a = a.del(t, other.P)
					} else if j != i {
						b = b.put(t, at(other.V+7, other.P...))
					}
				}
				checkMerge(t, o, a, b)
				if l, e := Clashes(o.x, a.x, b.x); len(l) != 1 || !slices.Equal(l[0].P, entry.P) || e != api.Fine {
					t.Fatal(k, level, l, e)
				}
			}
		}
	}
}

// P14.2: who changed unlike points never clashes; both lists of changes, done one after the other, come to the same.

func TestUnlikePoints(t *testing.T) {
	for k := 1; k <= 16; k++ {
		n := chance(130 + k)
		for _, level := range []int{0, 3, 40, 63} {
			o := mustVersion(t, k, n.entries(k, level, 30)...)
			a, b := n.changed(t, o, level, 10), n.changed(t, o, level, 10)
			ours, _ := diff.Changes(o.x, a.x)
			theirs, _ := diff.Changes(o.x, b.x)
			theirs = slices.DeleteFunc(theirs, func(c api.Change) bool {
				return slices.ContainsFunc(ours, func(d api.Change) bool { return slices.Equal(c.P, d.P) })
			})
			x, e := edit.Do(o.x, theirs)
			if e != api.Fine {
				t.Fatal(k, e)
			}
			want, e := edit.Do(a.x, theirs)
			if e != api.Fine {
				t.Fatal(k, e)
			}
			for _, sides := range [][2]*tree.Tree{{a.x, x}, {x, a.x}} {
				got, l, e := Three(o.x, sides[0], sides[1])
				if e != api.Fine || len(l) != 0 || !diff.Same(got, want) {
					t.Fatal(k, level, l, e)
				}
			}
		}
	}
}

// P14.1: level 0 and level 63: all addresses of few bits.

func TestLevelsAtTheirEnds(t *testing.T) {
	for k := 1; k <= 6; k++ {
		n := chance(150 + k)
		for _, level := range []int{0, 63} {
			var versions []version
			for _, share := range []int{1, 2, 3, 5, 9} {
				var l []api.Entry
				for addr := range 1 << k {
					p := all(k, 0)
					for i := range p {
						p[i] = uint64(addr>>i&1) << level
					}
					if n.below(share) == 0 {
						l = append(l, at(n.value(), p...))
					}
				}
				versions = append(versions, mustVersion(t, k, l...))
			}
			for _, o := range versions {
				for i, a := range versions {
					for _, b := range versions[i:] {
						checkMerge(t, o, a, b)
					}
				}
			}
		}
	}
}

// P14.1: 64 nodes, each below the one before it.

func TestDeep(t *testing.T) {
	for _, k := range []int{1, 2, 16} {
		var l, m []api.Entry
		for level := range 64 {
			l = append(l, at(uint64(level), all(k, 1<<level)...))
			p := all(k, 0)
			p[level%k] = 1<<level ^ 1
			m = append(m, at(uint64(level)/2, p...))
		}
		o := mustVersion(t, k, append(slices.Clone(l), at(1, all(k, 0)...))...)
		a, b := o, o
		for i, entry := range l {
			if i%2 > 0 {
				a = a.del(t, entry.P)
			} else {
				b = b.put(t, at(99, entry.P...))
			}
		}
		checkMerge(t, o, a, b)
		checkMerge(t, o, a.put(t, at(4, all(k, 0)...)), b.put(t, at(5, all(k, 0)...)))
		checkMerge(t, o, mustVersion(t, k, m...), a)
		checkMerge(t, mustVersion(t, k, m...), b, a)
		// Both lose all but one entry.
		checkMerge(t, o, mustVersion(t, k, l[0]), mustVersion(t, k, l[63]))
		checkMerge(t, o, mustVersion(t, k, l[5]), mustVersion(t, k, at(7, l[5].P...)))
	}
}

// P14.1: kids that are taken away on both sides, so that one is left, or none; and slots that become dense, or sparse.

func TestKidsThatGo(t *testing.T) {
	for k := 2; k <= 6; k++ {
		var l []api.Entry
		for addr := range 1 << k {
			p := all(k, 0)
			for i := range p {
				p[i] = uint64(addr>>i&1)<<20 | uint64(addr)
			}
			l = append(l, at(uint64(addr), p...))
		}
		full := mustVersion(t, k, l...)
		for keep := range len(l) {
			a, b := full, full
			for i, entry := range l {
				if i != keep && i%2 == 0 {
					a = a.del(t, entry.P)
				} else if i != keep {
					b = b.del(t, entry.P)
				}
			}
			checkMerge(t, full, a, b)
			x, _, _ := Three(full.x, a.x, b.x)
			checkTree(t, x, k, []api.Entry{l[keep]})
			checkMerge(t, full, a.put(t, at(100, l[keep].P...)), b)
			last, _, _ := Three(full.x, a.del(t, l[keep].P).x, b.x)
			checkTree(t, last, k, nil)
		}
		// Half of all is there; each side brings, or takes, some.
		half := mustVersion(t, k, l[:len(l)/2]...)
		a := half.put(t, l[len(l)/2])
		checkMerge(t, half, a, half.put(t, l[len(l)-1]))
		checkMerge(t, half, half.del(t, l[0].P), half.put(t, l[len(l)-1]))
		checkMerge(t, a, a.del(t, l[0].P), a.del(t, l[1].P))
	}
}

// P14.1: one node with many kids.

func TestWide(t *testing.T) {
	const k = 16
	n := chance(170)
	wide := func(low, high int) []api.Entry {
		var l []api.Entry
		for addr := low; addr < high; addr++ {
			p := all(k, 0)
			for i := range p {
				p[i] = uint64(addr*37>>i&1) << 9
			}
			l = append(l, at(n.value(), p...))
		}
		return l
	}
	o := mustVersion(t, k, wide(0, 700)...)
	a := mustVersion(t, k, wide(200, 900)...)
	b := n.changed(t, o, 63, 50)
	checkMerge(t, o, a, b)
	checkMerge(t, b, o, a)
	checkMerge(t, o, n.changed(t, o, 63, 300), b)
}

// P14.1, P14.2: many entries, and versions of these.

func TestMany(t *testing.T) {
	for _, k := range []int{1, 2, 3} {
		n := chance(190 + k)
		var l []api.Entry
		for range 5000 {
			p := make([]uint64, k)
			for i := range p {
				p[i] = uint64(n.below(1 << 14))
			}
			l = append(l, at(n.value(), p...))
		}
		o := mustVersion(t, k, l...)
		a, b := o, o
		for i, entry := range o.l {
			if i%7 == 0 {
				a = version{x: mustDel(t, a.x, entry.P)}
			}
			if i%5 == 0 {
				b = version{x: mustPut(t, b.x, at(entry.V+1, entry.P...))}
			}
		}
		a.l, b.l = walk.All(a.x.Root()), walk.All(b.x.Root())
		checkMerge(t, o, a, b)
		checkMerge(t, o, a.apart(t), b)
	}
}

func mustDel(t *testing.T, x *tree.Tree, p []uint64) *tree.Tree {
	t.Helper()
	y, e := x.Del(p)
	if e != api.Fine {
		t.Fatal("del", p, e)
	}
	return y
}

func mustPut(t *testing.T, x *tree.Tree, entry api.Entry) *tree.Tree {
	t.Helper()
	y, e := x.Put(entry.P, entry.V)
	if e != api.Fine {
		t.Fatal("put", entry, e)
	}
	return y
}

// R4: what is told is the caller's, and shares nothing.

func TestToldIsTheCallers(t *testing.T) {
	o := mustVersion(t, 2, at(1, 4, 0), at(1, 7, 3))
	a := o.put(t, at(2, 4, 0)).put(t, at(2, 7, 3))
	b := o.put(t, at(3, 4, 0)).del(t, []uint64{7, 3})
	want := []api.Clash{
		{P: []uint64{4, 0}, InO: true, InA: true, InB: true, O: 1, A: 2, B: 3},
		{P: []uint64{7, 3}, InO: true, InA: true, O: 1, A: 2},
	}
	first, _ := Clashes(o.x, a.x, b.x)
	_, second, _ := Three(o.x, a.x, b.x)
	_, third, _ := Three(o.x, a.x, b.x)
	for _, l := range [][]api.Clash{first, second} {
		if !sameClashes(l, want) {
			t.Fatal(l)
		}
		l[0].P[0], l[0].P[1], l[1].P[0] = 99, 99, 99
		l[0].A = 99
		_ = append(l[0].P, 1)
		if l[1].P[1] != 3 {
			t.Error("two points share a list", l)
		}
	}
	if !sameClashes(third, want) {
		t.Error(third)
	}
	if l, e := Clashes(o.x, a.x, b.x); !sameClashes(l, want) || e != api.Fine {
		t.Error(l, e)
	}
	checkMerge(t, o, a, b)
}

// P14.1: wrong inputs: the first error that holds, with nothing beside it.

func TestWrongTrees(t *testing.T) {
	one, two := mustVersion(t, 1, at(1, 1)).x, mustVersion(t, 2, at(1, 1, 1)).x
	more, less := mustVersion(t, 2, at(2, 1, 1)).x, mustVersion(t, 2).x
	wide, empty := mustVersion(t, 16, at(1, all(16, 1)...)).x, mustVersion(t, 3).x
	for i, c := range []struct {
		o, a, b *tree.Tree
		want    api.Code
	}{
		{nil, nil, nil, api.Nil},
		{nil, two, two, api.Nil},
		{two, nil, two, api.Nil},
		{two, two, nil, api.Nil},
		{nil, nil, two, api.Nil},
		{nil, two, nil, api.Nil},
		{two, nil, nil, api.Nil},
		{nil, one, two, api.Nil},
		{one, nil, two, api.Nil},
		{one, two, nil, api.Nil},
		{nil, more, less, api.Nil},
		{one, two, two, api.Dim},
		{two, one, two, api.Dim},
		{two, two, one, api.Dim},
		{two, more, one, api.Dim},
		{one, two, more, api.Dim},
		{one, one, wide, api.Dim},
		{wide, one, one, api.Dim},
		{one, two, wide, api.Dim},
		{less, less, empty, api.Dim},
		{empty, less, less, api.Dim},
		{less, empty, less, api.Dim},
		// These clash: nothing else is wrong.
		{less, two, more, api.Conflict},
		{two, more, less, api.Conflict},
	} {
		if x, l, e := Three(c.o, c.a, c.b); x != nil || (len(l) != 0) != (c.want == api.Conflict) || e != c.want {
			t.Error(i, x, l, e)
		}
		if c.want == api.Conflict {
			continue
		}
		if l, e := Clashes(c.o, c.a, c.b); len(l) != 0 || e != c.want {
			t.Error(i, l, e)
		}
		for _, rule := range []int{1, 2, 3, 4, 5, 0, 6, -1, math.MinInt, math.MaxInt} {
			if x, n, e := By(c.o, c.a, c.b, rule); x != nil || n != 0 || e != c.want {
				t.Error(i, rule, x, n, e)
			}
		}
	}
}

func TestWrongRules(t *testing.T) {
	o := mustVersion(t, 2, at(1, 1, 1), at(2, 5, 5)).x
	a, b := mustVersion(t, 2, at(2, 1, 1)).x, mustVersion(t, 2, at(3, 1, 1)).x
	for _, rule := range []int{math.MinInt, -1 << 32, -6, -5, -3, -2, -1, 0, 6, 7, 8, 100, 256, 257, 1<<32 + 1, 1<<32 + 5, math.MaxInt} {
		for i, trio := range [][3]*tree.Tree{{o, a, b}, {o, a, a}, {o, o, b}, {o, a, o}, {o, o, o}} {
			if x, n, e := By(trio[0], trio[1], trio[2], rule); x != nil || n != 0 || e != api.Kind {
				t.Error(rule, i, x, n, e)
			}
		}
	}
}

// R1: trees that no call made end, too.

func TestZeroTrees(t *testing.T) {
	made := mustVersion(t, 1, at(1, 1)).x
	o, a, b := &tree.Tree{}, &tree.Tree{}, &tree.Tree{}
	x, l, e := Three(o, a, b)
	if x == nil || x.K() != 0 || x.Len() != 0 || len(l) != 0 || e != api.Fine {
		t.Error(x, l, e)
	}
	for _, trio := range [][3]*tree.Tree{{made, a, b}, {o, made, b}, {o, a, made}} {
		if x, l, e := Three(trio[0], trio[1], trio[2]); x != nil || len(l) != 0 || e != api.Dim {
			t.Error(x, l, e)
		}
	}
}
