package sets

import (
	"fmt"
	"math"
	"math/big"
	"reflect"
	"slices"
	"testing"

	"pantile/api"
	"pantile/diff"
	"pantile/node"
	"pantile/tree"
	"pantile/walk"
)

var rules = []int{First, Second, Least, Most, Total, Gap}

// chance makes numbers that look like chance, and are the same in each run.
type chance uint64

func (n *chance) below(most int) int {
	*n = *n*6364136223846793005 + 1442695040888963407
	return int(uint64(*n)>>33) % most
}

// point is a point whose bits above a level are those of all others.
func (n *chance) point(k, level int) []uint64 {
	p := all(k, 0xA5A5A5A5A5A5A5A5)
	for i := range p {
		for range 1 + n.below(2) {
			p[i] ^= 1 << n.below(level+1)
		}
	}
	return p
}

// value is one of few values, 0 often, or a great one.
func (n *chance) value() uint64 {
	if n.below(3) > 0 {
		return uint64(n.below(3))
	}
	return math.MaxUint64 - uint64(n.below(3))
}

// entries are up to most entries with unlike points, that part at a level, or below, in z-order.
func (n *chance) entries(k, level, most int) []api.Entry {
	var l []api.Entry
	for range most {
		l = append(l, at(n.value(), n.point(k, level)...))
	}
	return inOrder(l)
}

// changed is another version, so many steps away: some entries are gone, some have another value, some are new.
func (n *chance) changed(t *testing.T, v version, level, steps int) version {
	t.Helper()
	for range steps {
		switch {
		case len(v.l) > 0 && n.below(3) == 0:
			v = v.del(t, v.l[n.below(len(v.l))].P)
		case len(v.l) > 0 && n.below(2) == 0:
			v = v.put(t, at(n.value(), v.l[n.below(len(v.l))].P...))
		default:
			v = v.put(t, at(n.value(), n.point(v.x.K(), level)...))
		}
	}
	return v
}

// at is an entry.
func at(v uint64, p ...uint64) api.Entry {
	return api.Entry{P: p, V: v}
}

// all has the same coordinate K times.
func all(k int, c uint64) []uint64 {
	return slices.Repeat([]uint64{c}, k)
}

// Plain readings: bit by bit, point by point, as the chapter says it.

// plainCmp goes down from the highest level to the first one at which the addresses aren't the same.
func plainCmp(p, q []uint64) int {
	for level := 63; level >= 0; level-- {
		for i, c := range p {
			if a, b := c>>level&1, q[i]>>level&1; a != b {
				return int(a) - int(b)
			}
		}
	}
	return 0
}

// inOrder are the entries in z-order, one of each point.
func inOrder(l []api.Entry) []api.Entry {
	l = slices.Clone(l)
	slices.SortStableFunc(l, func(x, y api.Entry) int { return plainCmp(x.P, y.P) })
	return slices.CompactFunc(l, func(x, y api.Entry) bool { return slices.Equal(x.P, y.P) })
}

// thing is what a point has: a value, or nothing.
type thing struct {
	is bool
	v  uint64
}

// key is a point as the key of a map, where all points have one K.
func key(p []uint64) [api.MaxK]uint64 {
	var k [api.MaxK]uint64
	copy(k[:], p)
	return k
}

// thingsOf tells what each point of a list has.
func thingsOf(l []api.Entry) map[[api.MaxK]uint64]thing {
	things := map[[api.MaxK]uint64]thing{}
	for _, entry := range l {
		things[key(entry.P)] = thing{is: true, v: entry.V}
	}
	return things
}

// plainBy is what two values come to by a rule, in numbers that don't go round by themselves.
func plainBy(rule int, v, w uint64) uint64 {
	a, b := new(big.Int).SetUint64(v), new(big.Int).SetUint64(w)
	out := new(big.Int)
	switch rule {
	case 1:
		out = a
	case 2:
		out = b
	case 3:
		out = a
		if b.Cmp(a) < 0 {
			out = b
		}
	case 4:
		out = a
		if b.Cmp(a) > 0 {
			out = b
		}
	case 5:
		out.Mod(out.Add(a, b), new(big.Int).Lsh(big.NewInt(1), 64))
	case 6:
		out.Abs(out.Sub(a, b))
	}
	return out.Uint64()
}

// plain is what is to be told of two lists.
type plain struct {
	both, onlyA, onlyB []api.Entry
	// w are B's values of what both have, in the same order.
	w []uint64
}

// plainOf asks both lists for each of their points.
func plainOf(a, b version) plain {
	var out plain
	hasA, hasB := thingsOf(a.l), thingsOf(b.l)
	for _, entry := range inOrder(slices.Concat(a.l, b.l)) {
		inA, inB := hasA[key(entry.P)], hasB[key(entry.P)]
		switch {
		case inA.is && inB.is:
			out.both = append(out.both, at(inA.v, entry.P...))
			out.w = append(out.w, inB.v)
		case inA.is:
			out.onlyA = append(out.onlyA, at(inA.v, entry.P...))
		default:
			out.onlyB = append(out.onlyB, at(inB.v, entry.P...))
		}
	}
	return out
}

// common is what both have, by a rule.
func (x plain) common(rule int) []api.Entry {
	var l []api.Entry
	for i, entry := range x.both {
		l = append(l, at(plainBy(rule, entry.V, x.w[i]), entry.P...))
	}
	return l
}

// union is what one of both has, by a rule.
func (x plain) union(rule int) []api.Entry {
	return inOrder(slices.Concat(x.onlyA, x.onlyB, x.common(rule)))
}

func sameEntry(x, y api.Entry) bool {
	return x.V == y.V && slices.Equal(x.P, y.P)
}

// version is a tree, and its entries in z-order.
type version struct {
	x *tree.Tree
	l []api.Entry
}

// mustVersion puts entries one after the other.
func mustVersion(t *testing.T, k int, l ...api.Entry) version {
	t.Helper()
	x, e := tree.New(k)
	if e != api.Fine {
		t.Fatal("new", k, e)
	}
	for _, entry := range l {
		if x, e = x.Put(entry.P, entry.V); e != api.Fine {
			t.Fatal("put", entry, e)
		}
	}
	return version{x: x, l: walk.All(x.Root())}
}

// put is the version with an entry.
func (v version) put(t *testing.T, entry api.Entry) version {
	t.Helper()
	x, e := v.x.Put(entry.P, entry.V)
	if e != api.Fine {
		t.Fatal("put", entry, e)
	}
	return version{x: x, l: inOrder(append([]api.Entry{entry}, v.l...))}
}

// del is the version without a point.
func (v version) del(t *testing.T, p []uint64) version {
	t.Helper()
	x, e := v.x.Del(p)
	if e != api.Fine {
		t.Fatal("del", p, e)
	}
	return version{x: x, l: slices.DeleteFunc(slices.Clone(v.l), func(entry api.Entry) bool { return slices.Equal(entry.P, p) })}
}

// apart is the same version, put anew from the last entry on, so that no node is in common.
func (v version) apart(t *testing.T) version {
	t.Helper()
	l := slices.Clone(v.l)
	slices.Reverse(l)
	return mustVersion(t, v.x.K(), l...)
}

// valued has the same points, each with a value made of the one that it had.
func (v version) valued(t *testing.T, of func(v uint64) uint64) version {
	t.Helper()
	for _, entry := range slices.Clone(v.l) {
		v = v.put(t, at(of(entry.V), entry.P...))
	}
	return v
}

// Checks.

// checkTree: the tree has the entries, and the nodes that these have whatever came first.
func checkTree(t *testing.T, x *tree.Tree, k int, want []api.Entry) {
	t.Helper()
	if x == nil {
		t.Fatal("no tree of", want)
	}
	if got := walk.All(x.Root()); x.K() != k || x.Len() != len(want) || !slices.EqualFunc(got, want, sameEntry) {
		t.Fatal("put together", got, "of", x.K(), "not", want)
	}
	if again := mustVersion(t, k, want...).x; !reflect.DeepEqual(x.Shapes(), again.Shapes()) || x.Root().Sums() != again.Root().Sums() {
		t.Fatal("put together", x.Shapes(), "not", again.Shapes())
	}
}

// checkPair: all five calls tell what is read plainly, with A and B swapped, too; nothing that was handed in has become another thing.
func checkPair(t *testing.T, a, b version) {
	t.Helper()
	checkOneWay(t, a, b)
	checkOneWay(t, b, a)
	for _, v := range []version{a, b} {
		if got := walk.All(v.x.Root()); !slices.EqualFunc(got, v.l, sameEntry) {
			t.Fatal("what was handed in has become another one", got, "not", v.l)
		}
	}
}

func checkOneWay(t *testing.T, a, b version) {
	t.Helper()
	want, k := plainOf(a, b), a.x.K()
	for _, rule := range rules {
		x, e := Union(a.x, b.x, rule)
		if e != api.Fine {
			t.Fatal("union by", rule, e)
		}
		checkTree(t, x, k, want.union(rule))
		if x, e = Common(a.x, b.x, rule); e != api.Fine {
			t.Fatal("common by", rule, e)
		}
		checkTree(t, x, k, want.common(rule))
	}
	x, e := Without(a.x, b.x)
	if e != api.Fine {
		t.Fatal("without", e)
	}
	checkTree(t, x, k, want.onlyA)
	if is, e := Subset(a.x, b.x); is != (len(want.onlyA) == 0) || e != api.Fine {
		t.Fatal("subset", is, e, a.l, b.l)
	}
	if is, e := Touch(a.x, b.x); is != (len(want.both) > 0) || e != api.Fine {
		t.Fatal("touch", is, e, a.l, b.l)
	}
}

// checkAsks: Subset and Touch, with A and B swapped.
func checkAsks(t *testing.T, a, b *tree.Tree, inB, inA, touch bool) {
	t.Helper()
	if is, e := Subset(a, b); is != inB || e != api.Fine {
		t.Error("subset", is, e)
	}
	if is, e := Subset(b, a); is != inA || e != api.Fine {
		t.Error("subset, swapped", is, e)
	}
	if is, e := Touch(a, b); is != touch || e != api.Fine {
		t.Error("touch", is, e)
	}
	if is, e := Touch(b, a); is != touch || e != api.Fine {
		t.Error("touch, swapped", is, e)
	}
}

// through tells all nodes from n down.
func through(n *node.Node, tell func(n *node.Node)) {
	if n == nil {
		return
	}
	tell(n)
	for _, addr := range n.Shape().Places {
		through(n.Kid(addr), tell)
	}
}

// checkNodes: no node is made anew whose entries one of both has as a node.
func checkNodes(t *testing.T, a, b *tree.Tree) {
	t.Helper()
	had, texts := map[*node.Node]bool{}, map[string]bool{}
	for _, x := range []*tree.Tree{a, b} {
		through(x.Root(), func(n *node.Node) {
			had[n] = true
			texts[fmt.Sprint(walk.All(n))] = true
		})
	}
	check := func(x *tree.Tree, e api.Code) {
		t.Helper()
		if e != api.Fine {
			t.Fatal(e)
		}
		through(x.Root(), func(n *node.Node) {
			if text := fmt.Sprint(walk.All(n)); !had[n] && texts[text] {
				t.Fatal("the node of", text, "was made anew")
			}
		})
	}
	for _, rule := range rules {
		check(Union(a, b, rule))
		check(Common(a, b, rule))
	}
	check(Without(a, b))
}

// The chapter's example.

func TestExample(t *testing.T) {
	a, b := mustVersion(t, 2, at(3, 4, 0)).x, mustVersion(t, 2, at(5, 4, 0)).x
	for rule, want := range map[int]uint64{Total: 8, Gap: 2} {
		for _, sides := range [][2]*tree.Tree{{a, b}, {b, a}} {
			x, e := Union(sides[0], sides[1], rule)
			if v, is, _ := x.Get([]uint64{4, 0}); v != want || !is || e != api.Fine {
				t.Error(rule, v, is, e)
			}
			x, e = Common(sides[0], sides[1], rule)
			if v, is, _ := x.Get([]uint64{4, 0}); v != want || !is || e != api.Fine {
				t.Error(rule, v, is, e)
			}
		}
	}
}

func TestRulesAsWritten(t *testing.T) {
	if First != 1 || Second != 2 || Least != 3 || Most != 4 || Total != 5 || Gap != 6 {
		t.Error(rules)
	}
}

// P15.1: each of the six rules at a point that both have, by hand.

func TestValuesByRules(t *testing.T) {
	const top = math.MaxUint64
	for i, c := range []struct {
		v, w uint64
		want [6]uint64
	}{
		{7, 7, [6]uint64{7, 7, 7, 7, 14, 0}},
		{0, 0, [6]uint64{0, 0, 0, 0, 0, 0}},
		{3, 5, [6]uint64{3, 5, 3, 5, 8, 2}},
		{5, 3, [6]uint64{5, 3, 3, 5, 8, 2}},
		{0, 4, [6]uint64{0, 4, 0, 4, 4, 4}},
		{4, 0, [6]uint64{4, 0, 0, 4, 4, 4}},
		{4, 8, [6]uint64{4, 8, 4, 8, 12, 4}},
		{8, 4, [6]uint64{8, 4, 4, 8, 12, 4}},
		{top, top, [6]uint64{top, top, top, top, top - 1, 0}},
		{top, 0, [6]uint64{top, 0, 0, top, top, top}},
		{0, top, [6]uint64{0, top, 0, top, top, top}},
		{top, 1, [6]uint64{top, 1, 1, top, 0, top - 1}},
		{1, top, [6]uint64{1, top, 1, top, 0, top - 1}},
		{top - 2, 9, [6]uint64{top - 2, 9, 9, top - 2, 6, top - 11}},
		{1 << 63, 1 << 63, [6]uint64{1 << 63, 1 << 63, 1 << 63, 1 << 63, 0, 0}},
		{1 << 63, 1<<63 - 1, [6]uint64{1 << 63, 1<<63 - 1, 1<<63 - 1, 1 << 63, top, 1}},
		{1<<63 - 1, 1<<63 + 1, [6]uint64{1<<63 - 1, 1<<63 + 1, 1<<63 - 1, 1<<63 + 1, 0, 2}},
	} {
		for k := 1; k <= 16; k++ {
			p, q, r := all(k, 6), all(k, 7), all(k, 1<<63)
			a := mustVersion(t, k, at(c.v, p...), at(1, q...)).x
			b := mustVersion(t, k, at(c.w, p...), at(0, r...)).x
			for j, rule := range rules {
				x, e := Union(a, b, rule)
				v, is, _ := x.Get(p)
				only, inA, _ := x.Get(q)
				other, inB, _ := x.Get(r)
				if v != c.want[j] || !is || e != api.Fine || x.Len() != 3 || only != 1 || !inA || other != 0 || !inB {
					t.Error(i, k, "union by", rule, walk.All(x.Root()), e)
				}
				x, e = Common(a, b, rule)
				if v, is, _ := x.Get(p); v != c.want[j] || !is || e != api.Fine || x.Len() != 1 {
					t.Error(i, k, "common by", rule, walk.All(x.Root()), e)
				}
			}
		}
	}
}

// P15.1, P15.2: a value that is 0 against a point that isn't there, and against 0.

func TestNoughtAndNothing(t *testing.T) {
	for k := 1; k <= 16; k++ {
		p := all(k, 5)
		nought, none := mustVersion(t, k, at(0, p...)), mustVersion(t, k)
		checkPair(t, nought, none)
		checkPair(t, nought, nought.apart(t))
		for _, rule := range rules {
			for _, sides := range [][2]*tree.Tree{{nought.x, none.x}, {none.x, nought.x}} {
				x, e := Union(sides[0], sides[1], rule)
				if v, is, _ := x.Get(p); v != 0 || !is || x.Len() != 1 || e != api.Fine {
					t.Error(k, rule, v, is, e)
				}
				if x, e = Common(sides[0], sides[1], rule); x.Root() != nil || x.K() != k || e != api.Fine {
					t.Error(k, rule, walk.All(x.Root()), e)
				}
			}
			x, e := Common(nought.x, nought.apart(t).x, rule)
			if v, is, _ := x.Get(p); v != 0 || !is || e != api.Fine {
				t.Error(k, rule, v, is, e)
			}
		}
		if x, e := Without(nought.x, none.x); x.Len() != 1 || e != api.Fine {
			t.Error(k, e)
		}
		checkAsks(t, nought.x, none.x, false, true, false)
		checkAsks(t, nought.x, nought.apart(t).x, true, true, true)
		checkAsks(t, nought.x, mustVersion(t, k, at(9, p...)).x, true, true, true)
	}
}

// P15.1, P15.2: all that two trees can have at three points: nothing, 0, 1 or a great value.

func TestAllOfThreePoints(t *testing.T) {
	for _, points := range [][][]uint64{
		{{0}, {1}, {2}},
		{{0, 0}, {0, 1}, {1, 1}},
		{{4, 0}, {7, 3}, {0, 8}},
		{{0}, {1 << 62}, {1 << 63}},
		{{4, 4, 4}, {4, 6, 4}, {12, 4, 4}},
	} {
		var versions []version
		for set := range 64 {
			var l []api.Entry
			for i, p := range points {
				if v := set >> (2 * i) & 3; v > 0 {
					l = append(l, at([]uint64{0, 1, math.MaxUint64}[v-1], p...))
				}
			}
			versions = append(versions, mustVersion(t, len(points[0]), l...))
		}
		for i, a := range versions {
			for _, b := range versions[i:] {
				checkPair(t, a, b)
			}
		}
	}
}

// P15.1, P15.2: all pairs of sets of four points, with the same values, versions of one another.

func TestAllOfFourPoints(t *testing.T) {
	for _, points := range [][][]uint64{
		{{0}, {1}, {2}, {3}},
		{{0, 0}, {0, 1}, {1, 0}, {1, 1}},
		{{0, 0}, {1, 1}, {2, 2}, {5, 6}},
		{{0}, {1}, {1 << 62}, {1 << 63}},
	} {
		versions := []version{mustVersion(t, len(points[0]))}
		for i, p := range points {
			for _, v := range slices.Clone(versions) {
				versions = append(versions, v.put(t, at(uint64(i), p...)))
			}
		}
		for i, a := range versions {
			for _, b := range versions[i:] {
				checkPair(t, a, b)
				checkNodes(t, a.x, b.x)
			}
		}
	}
}

// P15.1, P15.2: any entries of each K, that part at levels at their ends and between: versions of one tree, the same ones put anew, and others.

func TestAnyEntries(t *testing.T) {
	for k := 1; k <= 16; k++ {
		n := chance(k)
		for _, level := range []int{0, 1, 5, 31, 62, 63} {
			o := mustVersion(t, k, n.entries(k, level, 1+n.below(30))...)
			for range 3 {
				a := n.changed(t, o, level, n.below(12))
				b := n.changed(t, o, level, n.below(12))
				checkPair(t, a, b)
				checkPair(t, o, a)
				checkPair(t, a.apart(t), b)
				checkPair(t, a, a.apart(t))
			}
			checkPair(t, o, mustVersion(t, k, n.entries(k, level, 1+n.below(30))...))
			checkPair(t, o, mustVersion(t, k, n.entries(k, n.below(64), 1+n.below(30))...))
		}
	}
}

// P15.1, P15.2: trees without entries, and with one.

func TestNoneAndOne(t *testing.T) {
	for k := 1; k <= 16; k++ {
		versions := []version{mustVersion(t, k), mustVersion(t, k)}
		for _, c := range []uint64{0, 1, 1<<63 - 1, 1 << 63, math.MaxUint64} {
			versions = append(versions, mustVersion(t, k, at(c, all(k, c)...)), mustVersion(t, k, at(1, all(k, c)...)))
		}
		far := all(k, 1)
		far[k-1] ^= 1 << 63
		versions = append(versions, mustVersion(t, k, at(1, far...)))
		for i, a := range versions {
			for _, b := range versions[i:] {
				checkPair(t, a, b)
			}
		}
		none, one := versions[0].x, versions[2].x
		checkAsks(t, none, versions[1].x, true, true, false)
		checkAsks(t, none, none, true, true, false)
		checkAsks(t, none, one, true, false, false)
		checkAsks(t, one, one, true, true, true)
		checkAsks(t, one, versions[4].x, false, false, false)
	}
}

// P15.1, P15.2: twice the same tree; trees that were made apart with the same entries.

func TestTwiceTheSame(t *testing.T) {
	for k := 1; k <= 16; k++ {
		n := chance(30 + k)
		for _, level := range []int{0, 20, 63} {
			a := mustVersion(t, k, n.entries(k, level, 20)...)
			twin, _ := tree.Of(k, a.x.Root())
			for _, b := range []version{a, {x: twin, l: a.l}, a.apart(t)} {
				checkPair(t, a, b)
				checkAsks(t, a.x, b.x, true, true, true)
				for _, rule := range []int{First, Second, Least, Most} {
					x, e := Union(a.x, b.x, rule)
					y, f := Common(a.x, b.x, rule)
					if e != api.Fine || f != api.Fine {
						t.Fatal(k, level, rule, e, f)
					}
					want := a.x
					if rule == Second {
						want = b.x
					}
					if x.Root() != want.Root() || y.Root() != want.Root() {
						t.Error(k, level, rule, "not the very same root")
					}
				}
				if x, e := Without(a.x, b.x); x.Root() != nil || x.K() != k || e != api.Fine {
					t.Error(k, level, walk.All(x.Root()), e)
				}
			}
			for _, entry := range a.l {
				x, _ := Common(a.x, a.x, Total)
				y, _ := Union(a.x, a.x, Gap)
				v, _, _ := x.Get(entry.P)
				w, _, _ := y.Get(entry.P)
				if v != 2*entry.V || w != 0 || x.Len() != len(a.l) || y.Len() != len(a.l) {
					t.Fatal(k, level, entry, v, w)
				}
			}
		}
	}
}

// P15.1, P15.2: all points of one tree among the other one's, with the same values, and with unlike ones; some in common; none.

func TestAmongTheOthers(t *testing.T) {
	for k := 1; k <= 16; k++ {
		n := chance(50 + k)
		for _, level := range []int{0, 7, 63} {
			a := mustVersion(t, k, n.entries(k, level, 30)...)
			b := a
			for i, entry := range a.l {
				if i%3 > 0 {
					b = b.del(t, entry.P)
				}
			}
			rest, e := Without(a.x, b.x)
			if e != api.Fine {
				t.Fatal(k, level, e)
			}
			c := version{x: rest, l: walk.All(rest.Root())}
			unlike := b.valued(t, func(v uint64) uint64 { return v + 1 })
			whole := len(a.l) == len(b.l)
			for _, v := range []version{b, b.apart(t), unlike, unlike.apart(t)} {
				checkPair(t, a, v)
				checkAsks(t, v.x, a.x, true, whole, true)
				checkAsks(t, v.x, c.x, false, whole, false)
				checkPair(t, c, v)
			}
			far := all(k, 1)
			far[0] ^= 1 << 40
			checkPair(t, a, b.put(t, at(1, far...)))
			checkAsks(t, a.x, b.put(t, at(1, far...)).x, whole, false, true)
			checkPair(t, a, unlike.put(t, at(1, far...)))
		}
	}
}

// P15.2: one point that isn't there, or is in common, wherever it is.

func TestOnePointOnly(t *testing.T) {
	for _, k := range []int{1, 2, 7, 16} {
		n := chance(70 + k)
		for _, level := range []int{0, 20, 63} {
			a := mustVersion(t, k, n.entries(k, level, 25)...)
			for _, entry := range a.l {
				less := a.del(t, entry.P)
				one := mustVersion(t, k, at(entry.V+1, entry.P...))
				// As many points, but not this one.
				p := slices.Clone(entry.P)
				p[0] ^= 1 << 63
				other := less.put(t, at(entry.V, p...))
				checkAsks(t, a.x, less.x, false, true, len(less.l) > 0)
				checkAsks(t, a.x, less.apart(t).x, false, true, len(less.l) > 0)
				checkAsks(t, a.x, one.x, len(less.l) == 0, true, true)
				checkAsks(t, less.x, one.x, len(less.l) == 0, false, false)
				checkAsks(t, a.x, other.x, slices.ContainsFunc(less.l, func(e api.Entry) bool { return slices.Equal(e.P, entry.P) }), len(other.l) == len(less.l), len(less.l) > 0)
				checkPair(t, a, one)
				checkPair(t, less, one)
				checkPair(t, a, other)
			}
		}
	}
}

// P15.1: the very same tree, where one of both is what is told.

func TestTheVeryTrees(t *testing.T) {
	for k := 1; k <= 16; k++ {
		n := chance(90 + k)
		for _, level := range []int{0, 20, 63} {
			a := mustVersion(t, k, n.entries(k, level, 25)...)
			b, none := a, mustVersion(t, k)
			for i, entry := range a.l {
				if i%2 > 0 {
					b = b.del(t, entry.P)
				}
			}
			greater := b.valued(t, func(v uint64) uint64 { return max(v, 5) })
			noughts := b.valued(t, func(uint64) uint64 { return 0 })
			very := func(want *tree.Tree) func(got *tree.Tree, e api.Code) {
				return func(got *tree.Tree, e api.Code) {
					t.Helper()
					if got != want || e != api.Fine {
						t.Error(k, level, "not the very same tree", e)
					}
				}
			}
			for _, v := range []version{b, b.apart(t)} {
				for _, rule := range []int{First, Second, Least, Most} {
					very(a.x)(Union(a.x, v.x, rule))
					very(a.x)(Union(v.x, a.x, rule))
				}
				very(v.x)(Common(v.x, a.x, First))
				very(v.x)(Common(a.x, v.x, Second))
				very(v.x)(Common(v.x, greater.x, Least))
				very(v.x)(Common(greater.x, v.x, Least))
				very(greater.x)(Common(v.x, greater.x, Most))
				very(greater.x)(Common(greater.x, v.x, Most))
				very(v.x)(Common(v.x, noughts.x, Total))
				very(v.x)(Union(v.x, noughts.x, Gap))
				very(v.x)(Without(v.x, none.x))
			}
			for _, rule := range rules {
				very(a.x)(Union(a.x, none.x, rule))
				very(a.x)(Union(none.x, a.x, rule))
				very(noughts.x)(Union(noughts.x, noughts.x, rule))
			}
		}
	}
}

// T5: no node is made anew whose entries one of both has as a node.

func TestNodesInCommon(t *testing.T) {
	for k := 1; k <= 16; k++ {
		n := chance(110 + k)
		for _, level := range []int{0, 5, 63} {
			o := mustVersion(t, k, n.entries(k, level, 25)...)
			a, b := n.changed(t, o, level, 8), n.changed(t, o, level, 8)
			c := mustVersion(t, k, n.entries(k, level, 25)...)
			for _, sides := range [][2]version{{a, b}, {o, a}, {o, c}, {o, o.apart(t)}, {a.apart(t), b}, {a, a}} {
				checkNodes(t, sides[0].x, sides[1].x)
				checkNodes(t, sides[1].x, sides[0].x)
			}
		}
	}
}

// What is the very same isn't gone into.

func TestTheVerySameIsPassedBy(t *testing.T) {
	for _, k := range []int{1, 2, 3} {
		n := chance(130 + k)
		a := mustVersion(t, k, n.entries(k, 63, 500)...)
		b := n.changed(t, a, 63, 1)
		met := 0
		l := lockstep{
			known: pair.same,
			tell: func(pair) bool {
				met++
				return true
			},
		}
		l.through(pair{a.x.Root(), a.x.Root()})
		if met != 1 {
			t.Error(k, met, "from a tree to itself")
		}
		met = 0
		l.through(pair{a.x.Root(), b.x.Root()})
		if most := 64 << k; met > most {
			t.Error(k, met, "beside one step, more than", most)
		}
	}
}

// P15.3: A without B, and what they have in common by First, are A.

func TestPartsAreTheWhole(t *testing.T) {
	for k := 1; k <= 16; k++ {
		n := chance(150 + k)
		for _, level := range []int{0, 3, 40, 63} {
			a := mustVersion(t, k, n.entries(k, level, 30)...)
			for _, b := range []version{
				n.changed(t, a, level, 10),
				n.changed(t, a, level, 10).apart(t),
				mustVersion(t, k, n.entries(k, level, 30)...),
				mustVersion(t, k),
				a,
			} {
				for _, sides := range [][2]*tree.Tree{{a.x, b.x}, {b.x, a.x}} {
					checkParts(t, sides[0], sides[1])
				}
			}
		}
	}
}

func checkParts(t *testing.T, a, b *tree.Tree) {
	t.Helper()
	only, e := Without(a, b)
	both, f := Common(a, b, First)
	if e != api.Fine || f != api.Fine || only.Len()+both.Len() != a.Len() {
		t.Fatal(only.Len(), e, both.Len(), f, "not", a.Len())
	}
	checkAsks(t, only, both, only.Len() == 0, both.Len() == 0, false)
	for _, rule := range rules {
		if whole, e := Union(only, both, rule); e != api.Fine || !diff.Same(whole, a) {
			t.Fatal(rule, e)
		}
	}
	for _, call := range []func(a, b *tree.Tree, rule int) (*tree.Tree, api.Code){Union, Common} {
		for _, rule := range []int{Least, Most, Total, Gap} {
			x, e := call(a, b, rule)
			y, f := call(b, a, rule)
			if e != api.Fine || f != api.Fine || !diff.Same(x, y) {
				t.Fatal(rule, e, f, "not one, swapped")
			}
		}
		x, _ := call(a, b, First)
		y, _ := call(b, a, Second)
		if !diff.Same(x, y) {
			t.Fatal("First isn't Second, swapped")
		}
	}
}

// P15.1, P15.2: level 0 and level 63: all addresses of few bits.

func TestLevelsAtTheirEnds(t *testing.T) {
	for k := 1; k <= 6; k++ {
		n := chance(170 + k)
		for _, level := range []int{0, 63} {
			var versions []version
			for _, share := range []int{1, 2, 3, 5, 9} {
				var l []api.Entry
				for addr := range 1 << k {
					p := all(k, 0)
					for i := range p {
						p[i] = uint64(addr>>i&1) << level
					}
					if n.below(share) == 0 {
						l = append(l, at(n.value(), p...))
					}
				}
				versions = append(versions, mustVersion(t, k, l...))
			}
			for i, a := range versions {
				for _, b := range versions[i:] {
					checkPair(t, a, b)
					checkNodes(t, a.x, b.x)
				}
			}
		}
	}
}

// P15.1, P15.2: 64 nodes, each below the one before it.

func TestDeep(t *testing.T) {
	for _, k := range []int{1, 2, 16} {
		var l, m []api.Entry
		for level := range 64 {
			l = append(l, at(uint64(level), all(k, 1<<level)...))
			p := all(k, 0)
			p[level%k] = 1<<level ^ 1
			m = append(m, at(uint64(level)/2, p...))
		}
		o := mustVersion(t, k, append(slices.Clone(l), at(1, all(k, 0)...))...)
		a, b := o, o
		for i, entry := range l {
			if i%2 > 0 {
				a = a.del(t, entry.P)
			} else {
				b = b.put(t, at(99, entry.P...))
			}
		}
		other := mustVersion(t, k, m...)
		checkPair(t, a, b)
		checkPair(t, o, other)
		checkPair(t, a, other)
		checkPair(t, o, mustVersion(t, k, l[0]))
		checkPair(t, o, mustVersion(t, k, l[63]))
		checkPair(t, o, mustVersion(t, k, l[5], l[40]))
		checkPair(t, a, a.apart(t))
		checkNodes(t, a.x, b.x)
	}
}

// P15.1, P15.2: one kid left, or none; slots that become dense, or sparse.

func TestKidsThatGo(t *testing.T) {
	for k := 2; k <= 6; k++ {
		var l []api.Entry
		for addr := range 1 << k {
			p := all(k, 0)
			for i := range p {
				p[i] = uint64(addr>>i&1)<<20 | uint64(addr)
			}
			l = append(l, at(uint64(addr), p...))
		}
		full := mustVersion(t, k, l...)
		for keep := range len(l) {
			less := full.del(t, l[keep].P)
			checkPair(t, full, less)
			x, e := Without(full.x, less.x)
			if e != api.Fine || x.Root() != full.x.Root().Kid(full.x.Root().Shape().Places[slices.IndexFunc(full.l, func(entry api.Entry) bool { return slices.Equal(entry.P, l[keep].P) })]) {
				t.Error(k, keep, e, "not the very kid that is left")
			}
			checkPair(t, full, mustVersion(t, k, at(7, l[keep].P...)))
		}
		for _, some := range []int{1, 2, len(l)/2 - 1, len(l) / 2, len(l)/2 + 1, len(l) - 2} {
			front, back := mustVersion(t, k, l[:some]...), mustVersion(t, k, l[some:]...)
			checkPair(t, front, back)
			checkPair(t, full, front)
			checkPair(t, front, back.put(t, at(9, l[0].P...)))
			checkPair(t, full.valued(t, func(v uint64) uint64 { return v ^ 3 }), back)
		}
	}
}

// P15.1: one node with many kids, few or many of which become others.

func TestWide(t *testing.T) {
	const k = 16
	n := chance(190)
	wide := func(low, high, by int) version {
		var l []api.Entry
		for addr := low; addr < high; addr += by {
			p := all(k, 0)
			for i := range p {
				p[i] = uint64(addr*37>>i&1) << 9
			}
			l = append(l, at(n.value(), p...))
		}
		return mustVersion(t, k, l...)
	}
	a := wide(0, 700, 1)
	for _, b := range []version{wide(200, 900, 1), wide(0, 700, 2), wide(0, 700, 40), wide(1000, 1005, 1), n.changed(t, a, 63, 50), n.changed(t, a, 63, 300)} {
		checkPair(t, a, b)
	}
}

// P15.1, P15.2: many entries, and versions of these.

func TestMany(t *testing.T) {
	for _, k := range []int{1, 2, 3} {
		n := chance(210 + k)
		some := func() version {
			var l []api.Entry
			for range 4000 {
				p := make([]uint64, k)
				for i := range p {
					p[i] = uint64(n.below(1 << (15 / k)))
				}
				l = append(l, at(n.value(), p...))
			}
			return mustVersion(t, k, l...)
		}
		a, b := some(), some()
		checkPair(t, a, b)
		checkPair(t, a, a.apart(t))
		few := n.changed(t, a, 14/k, 20)
		checkPair(t, a, few)
	}
}

// R4: what is told shares nothing with what was handed in that could be changed.

func TestNothingIsShared(t *testing.T) {
	a := mustVersion(t, 2, at(1, 4, 0), at(1, 7, 3))
	b := mustVersion(t, 2, at(2, 4, 0), at(2, 9, 9))
	x, _ := Union(a.x, b.x, Total)
	for _, entry := range walk.All(x.Root()) {
		entry.P[0], entry.V = 99, 99
	}
	through(x.Root(), func(n *node.Node) {
		n.Prefix()[0] = 99
		n.Shape().Prefix[1] = 99
	})
	checkTree(t, x, 2, []api.Entry{at(3, 4, 0), at(1, 7, 3), at(2, 9, 9)})
	checkPair(t, a, b)
}

// P15.1, P15.2: wrong inputs: the first error that holds, with nothing beside it.

func TestWrongTrees(t *testing.T) {
	one, two := mustVersion(t, 1, at(1, 1)).x, mustVersion(t, 2, at(1, 1, 1)).x
	wide, empty, less := mustVersion(t, 16, at(1, all(16, 1)...)).x, mustVersion(t, 3).x, mustVersion(t, 2).x
	for i, c := range []struct {
		a, b *tree.Tree
		want api.Code
	}{
		{nil, nil, api.Nil},
		{nil, two, api.Nil},
		{two, nil, api.Nil},
		{nil, less, api.Nil},
		{empty, nil, api.Nil},
		{nil, new(tree.Tree), api.Nil},
		{one, two, api.Dim},
		{two, one, api.Dim},
		{one, wide, api.Dim},
		{wide, two, api.Dim},
		{less, empty, api.Dim},
		{empty, two, api.Dim},
		{two, empty, api.Dim},
		{new(tree.Tree), one, api.Dim},
		{less, new(tree.Tree), api.Dim},
	} {
		for _, rule := range append([]int{0, 7, -1, math.MinInt, math.MaxInt}, rules...) {
			if x, e := Union(c.a, c.b, rule); x != nil || e != c.want {
				t.Error(i, "union by", rule, x, e)
			}
			if x, e := Common(c.a, c.b, rule); x != nil || e != c.want {
				t.Error(i, "common by", rule, x, e)
			}
		}
		if x, e := Without(c.a, c.b); x != nil || e != c.want {
			t.Error(i, "without", x, e)
		}
		if is, e := Subset(c.a, c.b); is || e != c.want {
			t.Error(i, "subset", is, e)
		}
		if is, e := Touch(c.a, c.b); is || e != c.want {
			t.Error(i, "touch", is, e)
		}
	}
}

func TestWrongRules(t *testing.T) {
	a, b := mustVersion(t, 2, at(1, 1, 1), at(2, 5, 5)).x, mustVersion(t, 2, at(2, 1, 1)).x
	none, apart := mustVersion(t, 2).x, mustVersion(t, 2, at(3, 9, 9)).x
	for _, rule := range []int{math.MinInt, -1 << 32, -7, -6, -5, -4, -3, -2, -1, 0, 7, 8, 100, 256, 257, 1<<32 + 1, 1<<32 + 6, math.MaxInt} {
		for i, sides := range [][2]*tree.Tree{{a, b}, {b, a}, {a, a}, {a, none}, {none, none}, {a, apart}} {
			if x, e := Union(sides[0], sides[1], rule); x != nil || e != api.Kind {
				t.Error(i, "union by", rule, x, e)
			}
			if x, e := Common(sides[0], sides[1], rule); x != nil || e != api.Kind {
				t.Error(i, "common by", rule, x, e)
			}
		}
	}
}

// R1: trees that no call made.

func TestTreesThatNobodyMade(t *testing.T) {
	a, b := new(tree.Tree), new(tree.Tree)
	for _, rule := range rules {
		if x, e := Union(a, b, rule); x.Len() != 0 || x.K() != 0 || e != api.Fine {
			t.Error(rule, x, e)
		}
		if x, e := Common(a, b, rule); x.Len() != 0 || x.K() != 0 || e != api.Fine {
			t.Error(rule, x, e)
		}
	}
	if x, e := Without(a, b); x.Len() != 0 || x.K() != 0 || e != api.Fine {
		t.Error(x, e)
	}
	checkAsks(t, a, b, true, true, false)
}
