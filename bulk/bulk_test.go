package bulk

import (
	"fmt"
	"math"
	"math/big"
	"reflect"
	"slices"
	"testing"

	"pantile/api"
	"pantile/node"
	"pantile/tree"
	"pantile/walk"
)

const top = math.MaxUint64

var rules = []int{Add, Times, Floor, Cap, Fill}

// chance makes numbers that look like chance, and are the same in each run.
type chance uint64

func (n *chance) below(most int) int {
	*n = *n*6364136223846793005 + 1442695040888963407
	return int(uint64(*n)>>33) % most
}

// point is a point whose bits above a level are those of all others.
func (n *chance) point(k, level int) []uint64 {
	p := all(k, 0xA5A5A5A5A5A5A5A5)
	for i := range p {
		for range 1 + n.below(2) {
			p[i] ^= 1 << n.below(level+1)
		}
	}
	return p
}

// value is one of few values, 0 often, or a great one.
func (n *chance) value() uint64 {
	if n.below(3) > 0 {
		return uint64(n.below(3))
	}
	return top - uint64(n.below(3))
}

// entries are up to most entries, in any order, some points more than once.
func (n *chance) entries(k, level, most int) []api.Entry {
	var l []api.Entry
	for range most {
		l = append(l, at(n.value(), n.point(k, level)...))
	}
	for range n.below(3) {
		if len(l) > 0 {
			l = append(l, at(n.value(), l[n.below(len(l))].P...))
		}
	}
	return l
}

// some are entries of a list, in any order, some of them more than once, with other values or with those that they have.
func (n *chance) some(l []api.Entry, most int) []api.Entry {
	var out []api.Entry
	for range min(most, 2*len(l)) {
		entry := l[n.below(len(l))]
		if n.below(2) == 0 {
			entry.V = n.value()
		}
		out = append(out, entry)
	}
	return out
}

// mixed is a list in another order.
func mixed[T any](n *chance, l []T) []T {
	l = slices.Clone(l)
	for i := range l {
		j := i + n.below(len(l)-i)
		l[i], l[j] = l[j], l[i]
	}
	return l
}

// at is an entry.
func at(v uint64, p ...uint64) api.Entry {
	return api.Entry{P: p, V: v}
}

// all has the same coordinate K times.
func all(k int, c uint64) []uint64 {
	return slices.Repeat([]uint64{c}, k)
}

// pointsOf are the points of entries.
func pointsOf(l []api.Entry) [][]uint64 {
	var points [][]uint64
	for _, entry := range l {
		points = append(points, entry.P)
	}
	return points
}

// Plain readings: bit by bit, entry by entry, as the chapter says it.

// plainCmp goes down from the highest level to the first one at which the addresses aren't the same.
func plainCmp(p, q []uint64) int {
	for level := 63; level >= 0; level-- {
		for i, c := range p {
			if a, b := c>>level&1, q[i]>>level&1; a != b {
				return int(a) - int(b)
			}
		}
	}
	return 0
}

// plainPuts puts one entry after the other.
func plainPuts(l, puts []api.Entry) []api.Entry {
	l = slices.Clone(l)
	for _, entry := range puts {
		l = append(plainDels(l, [][]uint64{entry.P}), entry)
	}
	slices.SortFunc(l, func(x, y api.Entry) int { return plainCmp(x.P, y.P) })
	return l
}

// plainDels takes one point after the other away.
func plainDels(l []api.Entry, points [][]uint64) []api.Entry {
	l = slices.Clone(l)
	for _, p := range points {
		l = slices.DeleteFunc(l, func(x api.Entry) bool { return slices.Equal(x.P, p) })
	}
	return l
}

// plainMap maps one value after the other, in numbers that don't go round by themselves.
func plainMap(l []api.Entry, rule int, c uint64) []api.Entry {
	l = slices.Clone(l)
	for i := range l {
		v, by := new(big.Int).SetUint64(l[i].V), new(big.Int).SetUint64(c)
		out := by
		switch rule {
		case 1:
			out = v.Add(v, by)
		case 2:
			out = v.Mul(v, by)
		case 3:
			if v.Cmp(by) > 0 {
				out = v
			}
		case 4:
			if v.Cmp(by) < 0 {
				out = v
			}
		}
		l[i].V = out.Mod(out, new(big.Int).Lsh(big.NewInt(1), 64)).Uint64()
	}
	return l
}

func plainWhere(l []api.Entry, lo, hi uint64) []api.Entry {
	return slices.DeleteFunc(slices.Clone(l), func(x api.Entry) bool { return x.V < lo || x.V > hi })
}

func sameEntry(x, y api.Entry) bool {
	return x.V == y.V && slices.Equal(x.P, y.P)
}

func sameEntries(l, m []api.Entry) bool {
	return slices.EqualFunc(l, m, sameEntry)
}

// version is a tree, and its entries in z-order.
type version struct {
	x *tree.Tree
	l []api.Entry
}

// mustVersion puts entries one after the other, by the tree's own calls.
func mustVersion(t *testing.T, k int, l ...api.Entry) version {
	t.Helper()
	x, e := tree.New(k)
	if e != api.Fine {
		t.Fatal("new", k, e)
	}
	for _, entry := range l {
		if x, e = x.Put(entry.P, entry.V); e != api.Fine {
			t.Fatal("put", entry, e)
		}
	}
	return version{x: x, l: plainPuts(nil, l)}
}

// Checks.

// nodesOf tells all nodes from n down.
func nodesOf(n *node.Node) []*node.Node {
	if n == nil {
		return nil
	}
	list := []*node.Node{n}
	for _, addr := range n.Shape().Places {
		list = append(list, nodesOf(n.Kid(addr))...)
	}
	return list
}

// checkTree: the tree has the entries, and the nodes that these have whatever came first.
func checkTree(t *testing.T, x *tree.Tree, e api.Code, k int, want []api.Entry) {
	t.Helper()
	if x == nil || e != api.Fine {
		t.Fatal("no tree of", want, "but", e)
	}
	if got := walk.All(x.Root()); x.K() != k || x.Len() != len(want) || !sameEntries(got, want) {
		t.Fatal("made", got, "of", x.K(), "not", want)
	}
	if again := mustVersion(t, k, want...).x; !reflect.DeepEqual(x.Shapes(), again.Shapes()) || x.Root().Sums() != again.Root().Sums() {
		t.Fatal("made", x.Shapes(), "not", again.Shapes())
	}
}

// checkFrom: besides, no node was made anew whose entries the version had as a node; with the same entries it is the very same tree; the version is as it was.
func checkFrom(t *testing.T, v version, x *tree.Tree, e api.Code, want []api.Entry) {
	t.Helper()
	checkTree(t, x, e, v.x.K(), want)
	if got := walk.All(v.x.Root()); !sameEntries(got, v.l) {
		t.Fatal("what was handed in has become another one", got, "not", v.l)
	}
	if sameEntries(v.l, want) != (x == v.x) {
		t.Fatal("is it the very same tree?", x == v.x, "from", v.l, "to", want)
	}
	had := map[string]*node.Node{}
	for _, n := range nodesOf(v.x.Root()) {
		had[fmt.Sprint(walk.All(n))] = n
	}
	for _, n := range nodesOf(x.Root()) {
		text := fmt.Sprint(walk.All(n))
		if old := had[text]; old != nil && old != n {
			t.Fatal("the node of", text, "was made anew")
		}
	}
}

func checkMake(t *testing.T, k int, l []api.Entry) {
	t.Helper()
	x, e := Make(k, l)
	checkTree(t, x, e, k, plainPuts(nil, l))
	none, _ := tree.New(k)
	y, e := Puts(none, l)
	checkTree(t, y, e, k, plainPuts(nil, l))
	if none.Root() != nil || (y == none) != (len(l) == 0) {
		t.Fatal("the tree without entries has become another one")
	}
}

func checkPuts(t *testing.T, v version, puts []api.Entry) {
	t.Helper()
	x, e := Puts(v.x, puts)
	checkFrom(t, v, x, e, plainPuts(v.l, puts))
}

func checkDels(t *testing.T, v version, points [][]uint64) {
	t.Helper()
	want := plainDels(v.l, points)
	x, n, e := Dels(v.x, points)
	checkFrom(t, v, x, e, want)
	if n != len(v.l)-len(want) {
		t.Fatal(n, "entries fewer, not", len(v.l)-len(want))
	}
}

func checkMap(t *testing.T, v version, c uint64) {
	t.Helper()
	for _, rule := range rules {
		x, e := Map(v.x, rule, c)
		checkFrom(t, v, x, e, plainMap(v.l, rule, c))
	}
}

func checkWhere(t *testing.T, v version, lo, hi uint64) {
	t.Helper()
	x, e := Where(v.x, lo, hi)
	checkFrom(t, v, x, e, plainWhere(v.l, lo, hi))
}

// checkValues: Map and Where by numbers that say something of values, and by those beside them.
func checkValues(t *testing.T, v version, values ...uint64) {
	t.Helper()
	for _, c := range values {
		checkMap(t, v, c)
		for _, hi := range values {
			checkWhere(t, v, c, hi)
		}
	}
}

// The chapter's example, and its numbers.

func TestExample(t *testing.T) {
	l := []api.Entry{at(1, 4, 0), at(2, 7, 3), at(3, 4, 0)}
	want := []api.Entry{at(3, 4, 0), at(2, 7, 3)}
	x, e := Make(2, l)
	checkTree(t, x, e, 2, want)
	if v, is, _ := x.Get([]uint64{4, 0}); v != 3 || !is || x.Len() != 2 {
		t.Error(v, is, x.Len())
	}
	checkMake(t, 2, l)
}

func TestRulesAsWritten(t *testing.T) {
	if Add != 1 || Times != 2 || Floor != 3 || Cap != 4 || Fill != 5 {
		t.Error(rules)
	}
}

// P16.1, P16.3: a list in every order; of unlike points all come to one, of like ones the last one counts.

func TestEveryOrder(t *testing.T) {
	for _, l := range [][]api.Entry{
		{at(1, 0), at(2, 1), at(3, 2), at(4, 3), at(0, 1<<63)},
		{at(3, 4, 0), at(1, 7, 3), at(2, 0, 8), at(9, 4, 1), at(top, top, top)},
		{at(1, 4, 0), at(2, 7, 3), at(3, 4, 0), at(4, 7, 3), at(5, 4, 0)},
		{at(1, 0, 0, 0), at(2, 0, 0, 1), at(3, 0, 0, 0), at(4, 0, 1, 0), at(5, 1, 0, 0)},
		{at(1, all(16, 5)...), at(2, all(16, 1<<63)...), at(3, all(16, 4)...), at(1, all(16, 5)...), at(0, all(16, 0)...)},
	} {
		k := len(l[0].P)
		there := mustVersion(t, k, at(7, l[0].P...), at(8, all(k, 6)...))
		everyOrder(l, func(l []api.Entry) {
			checkMake(t, k, l)
			checkPuts(t, there, l)
			checkDels(t, mustVersion(t, k, l[1:]...), pointsOf(l[:3]))
		})
	}
}

// everyOrder tells a list in each of its orders.
func everyOrder(l []api.Entry, tell func(l []api.Entry)) {
	var put func(done, left []api.Entry)
	put = func(done, left []api.Entry) {
		if len(left) == 0 {
			tell(done)
		}
		for i := range left {
			put(append(slices.Clone(done), left[i]), slices.Delete(slices.Clone(left), i, i+1))
		}
	}
	put(nil, l)
}

// P16.1: the same entry twice, and the same point with other values, there already or not.

func TestTheLastOneCounts(t *testing.T) {
	for k := 1; k <= 16; k++ {
		p, q := all(k, 5), all(k, 1<<63)
		for _, values := range [][]uint64{{1, 1}, {1, 2}, {2, 1}, {0, 1}, {1, 0}, {3, 2, 1}, {1, 2, 1}, {top, 0, top, 0}} {
			var l, m []api.Entry
			for i, v := range values {
				l = append(l, at(v, p...))
				m = append(m, at(v, p...), at(uint64(i), q...))
			}
			last := values[len(values)-1]
			for _, l := range [][]api.Entry{l, m} {
				x, e := Make(k, l)
				if v, is, _ := x.Get(p); v != last || !is || e != api.Fine {
					t.Error(k, values, v, is, e)
				}
				checkMake(t, k, l)
				checkPuts(t, mustVersion(t, k), l)
				checkPuts(t, mustVersion(t, k, at(1, p...)), l)
				checkPuts(t, mustVersion(t, k, at(last, p...)), l)
				checkPuts(t, mustVersion(t, k, at(last, p...), at(0, all(k, 4)...)), l)
				checkPuts(t, mustVersion(t, k, at(0, q...)), l)
			}
			there := mustVersion(t, k, at(last, p...), at(4, q...)).x
			if x, e := Puts(there, l); x != there || e != api.Fine {
				t.Error(k, values, "not the very same tree", e)
			}
		}
	}
}

// P16.1, P16.2: all that a tree can have at three points: nothing, 0, 1 or a great value; all lists of one or two puts, and of up to three Dels.

func TestAllOfThreePoints(t *testing.T) {
	for _, points := range [][][]uint64{
		{{0}, {1}, {2}},
		{{0, 0}, {0, 1}, {1, 1}},
		{{4, 0}, {7, 3}, {0, 8}},
		{{0}, {1 << 62}, {1 << 63}},
		{{4, 4, 4}, {4, 6, 4}, {12, 4, 4}},
	} {
		var one []api.Entry
		for _, p := range points {
			one = append(one, at(0, p...), at(1, p...), at(top, p...))
		}
		for set := range 64 {
			var l []api.Entry
			for i, p := range points {
				if v := set >> (2 * i) & 3; v > 0 {
					l = append(l, at([]uint64{0, 1, top}[v-1], p...))
				}
			}
			v := mustVersion(t, len(points[0]), l...)
			checkPuts(t, v, nil)
			for _, x := range one {
				checkPuts(t, v, []api.Entry{x})
				for _, y := range one {
					checkPuts(t, v, []api.Entry{x, y})
				}
			}
			checkAllDels(t, v, append(points, all(len(points[0]), 3)), 3)
			checkValues(t, v, 0, 1, 2, top-1, top)
		}
	}
}

// checkAllDels: all lists of up to so many of some points.
func checkAllDels(t *testing.T, v version, points [][]uint64, most int, list ...[]uint64) {
	t.Helper()
	checkDels(t, v, list)
	if len(list) == most {
		return
	}
	for _, p := range points {
		checkAllDels(t, v, points, most, append(slices.Clone(list), p)...)
	}
}

// P16.1, P16.2: any entries of each K, that part at levels at their ends and between.

func TestAnyEntries(t *testing.T) {
	for k := 1; k <= 16; k++ {
		n := chance(k)
		for _, level := range []int{0, 1, 5, 31, 62, 63} {
			l := n.entries(k, level, n.below(40))
			checkMake(t, k, l)
			checkMake(t, k, mixed(&n, l))
			v := mustVersion(t, k, l...)
			for range 3 {
				checkAny(t, &n, v, level)
			}
		}
	}
}

// checkAny: puts of points that are there, of new ones and of both; Dels likewise; Map and Where by any numbers.
func checkAny(t *testing.T, n *chance, v version, level int) {
	t.Helper()
	k := v.x.K()
	there, others := n.some(v.l, 1+n.below(20)), n.entries(k, level, 1+n.below(20))
	far := n.entries(k, n.below(64), n.below(6))
	for _, l := range [][]api.Entry{there, others, far, mixed(n, slices.Concat(there, others, far))} {
		checkPuts(t, v, l)
		checkDels(t, v, pointsOf(l))
	}
	checkDels(t, v, pointsOf(mixed(n, v.l)))
	if len(v.l) > 0 {
		checkDels(t, v, pointsOf(mixed(n, v.l)[1:]))
	}
	checkValues(t, v, n.value(), n.value())
}

// P16.1: Make and Puts without an entry, with one and with two.

func TestNoneAndOne(t *testing.T) {
	for k := 1; k <= 16; k++ {
		checkMake(t, k, nil)
		checkMake(t, k, []api.Entry{})
		none := mustVersion(t, k)
		for _, c := range []uint64{0, 1, 1<<63 - 1, 1 << 63, top} {
			for _, v := range []uint64{0, 1, top} {
				p := all(k, c)
				one := mustVersion(t, k, at(v, p...))
				checkMake(t, k, one.l)
				for _, from := range []version{none, one, mustVersion(t, k, at(1, all(k, 7)...)), mustVersion(t, k, at(1, all(k, 7)...), at(v, p...))} {
					checkPuts(t, from, nil)
					checkPuts(t, from, []api.Entry{})
					checkPuts(t, from, one.l)
					checkDels(t, from, nil)
					checkDels(t, from, [][]uint64{})
					checkDels(t, from, [][]uint64{p})
					checkDels(t, from, [][]uint64{p, p, all(k, 7)})
					checkValues(t, from, 0, 1, top)
				}
				// The one coordinate that is another one may be the first or the last one.
				for _, i := range []int{0, k - 1} {
					q := slices.Clone(p)
					q[i] ^= 1 << 63
					r := slices.Clone(p)
					r[i] ^= 1
					checkMake(t, k, []api.Entry{at(v, q...), at(1, p...)})
					checkPuts(t, one, []api.Entry{at(v, q...), at(v, r...)})
					checkDels(t, one, [][]uint64{q, r})
				}
			}
		}
	}
}

// P16.2: each rule by hand, past 2^64 too.

func TestValuesByRules(t *testing.T) {
	for i, x := range []struct {
		v, c uint64
		want [5]uint64
	}{
		{0, 0, [5]uint64{0, 0, 0, 0, 0}},
		{7, 7, [5]uint64{14, 49, 7, 7, 7}},
		{3, 5, [5]uint64{8, 15, 5, 3, 5}},
		{5, 3, [5]uint64{8, 15, 5, 3, 3}},
		{0, 4, [5]uint64{4, 0, 4, 0, 4}},
		{4, 0, [5]uint64{4, 0, 4, 0, 0}},
		{9, 1, [5]uint64{10, 9, 9, 1, 1}},
		{1, 9, [5]uint64{10, 9, 9, 1, 9}},
		{top, 0, [5]uint64{top, 0, top, 0, 0}},
		{0, top, [5]uint64{top, 0, top, 0, top}},
		{top, 1, [5]uint64{0, top, top, 1, 1}},
		{1, top, [5]uint64{0, top, top, 1, top}},
		{top, 2, [5]uint64{1, top - 1, top, 2, 2}},
		{top, top, [5]uint64{top - 1, 1, top, top, top}},
		{1 << 63, 1 << 63, [5]uint64{0, 0, 1 << 63, 1 << 63, 1 << 63}},
		{1 << 63, 3, [5]uint64{1<<63 + 3, 1 << 63, 1 << 63, 3, 3}},
		{1 << 32, 1 << 32, [5]uint64{1 << 33, 0, 1 << 32, 1 << 32, 1 << 32}},
		{1<<32 + 1, 1<<32 + 1, [5]uint64{1<<33 + 2, 1<<33 + 1, 1<<32 + 1, 1<<32 + 1, 1<<32 + 1}},
		{1<<63 - 1, 1 << 63, [5]uint64{top, 1 << 63, 1 << 63, 1<<63 - 1, 1 << 63}},
	} {
		for _, k := range []int{1, 2, 16} {
			p := all(k, 6)
			v := mustVersion(t, k, at(x.v, p...), at(1, all(k, 7)...), at(2, all(k, 1<<63)...))
			for j, rule := range rules {
				y, e := Map(v.x, rule, x.c)
				if got, is, _ := y.Get(p); got != x.want[j] || !is || y.Len() != 3 || e != api.Fine {
					t.Error(i, k, rule, got, is, e)
				}
			}
			checkMap(t, v, x.c)
		}
	}
}

// P16.2: values that stay as they are, of all entries or of some.

func TestValuesThatStay(t *testing.T) {
	for k := 1; k <= 16; k++ {
		n := chance(30 + k)
		for _, level := range []int{0, 8, 63} {
			v := mustVersion(t, k, n.entries(k, level, 25)...)
			sums := v.x.Root().Sums()
			for _, c := range []struct {
				rule int
				c    uint64
			}{{Add, 0}, {Times, 1}, {Floor, 0}, {Floor, sums.Min}, {Cap, top}, {Cap, sums.Max}} {
				if x, e := Map(v.x, c.rule, c.c); x != v.x || e != api.Fine {
					t.Error(k, level, c, "not the very same tree", e)
				}
			}
			checkValues(t, v, 0, 1, 2, 3, top-1, top)
			for _, c := range []uint64{0, 7, top} {
				like := mustVersion(t, k, plainMap(v.l, Fill, c)...)
				for _, rule := range []int{Floor, Cap, Fill} {
					if x, e := Map(like.x, rule, c); x != like.x || e != api.Fine {
						t.Error(k, level, rule, c, "not the very same tree", e)
					}
				}
			}
			noughts := mustVersion(t, k, plainMap(v.l, Fill, 0)...)
			// An even value times 2^63 is 0, modulo 2^64.
			even := mustVersion(t, k, plainMap(v.l, Times, 2)...)
			for _, like := range []version{noughts, even} {
				if x, e := Map(like.x, Times, 1<<63+1); x != like.x || e != api.Fine {
					t.Error(k, level, "not the very same tree", e)
				}
			}
			checkMap(t, v, 1<<63+1)
		}
	}
}

// P16.2: Where with all entries, some and none; both numbers the same, the wrong way round, and at their ends.

func TestWhere(t *testing.T) {
	for k := 1; k <= 16; k++ {
		n := chance(50 + k)
		for _, level := range []int{0, 8, 63} {
			v := mustVersion(t, k, n.entries(k, level, 25)...)
			v = mustVersion(t, k, plainPuts(v.l, []api.Entry{at(5, v.l[0].P...)})...)
			sums := v.x.Root().Sums()
			for _, c := range [][2]uint64{{0, top}, {sums.Min, sums.Max}, {0, sums.Max}, {sums.Min, top}} {
				if x, e := Where(v.x, c[0], c[1]); x != v.x || e != api.Fine {
					t.Error(k, level, c, "not the very same tree", e)
				}
			}
			for _, c := range [][2]uint64{{top, 0}, {top, top - 1}, {6, 5}, {5, 4}, {1, 0}, {3, 4}, {6, 9}, {sums.Max, sums.Max - 1}} {
				if x, e := Where(v.x, c[0], c[1]); x == nil || x.Root() != nil || x.Len() != 0 || x.K() != k || e != api.Fine {
					t.Error(k, level, c, "not without entries", e)
				}
			}
			if x, e := Where(v.x, 5, 5); e != api.Fine || x.Len() != 1 || !sameEntries(walk.All(x.Root()), v.l[:1]) {
				t.Error(k, level, walk.All(x.Root()), e)
			}
			checkValues(t, v, 0, 1, 2, 4, 5, 6, top-2, top-1, top)
		}
	}
}

// P16.2: no entries are all of them.

func TestOfNoEntries(t *testing.T) {
	for k := 1; k <= 16; k++ {
		none := mustVersion(t, k)
		checkValues(t, none, 0, 1, 1<<63, top)
		for _, c := range []uint64{0, 5, top} {
			for _, rule := range rules {
				if x, e := Map(none.x, rule, c); x != none.x || e != api.Fine {
					t.Error(k, rule, c, e)
				}
			}
			if x, e := Where(none.x, c, 5); x != none.x || e != api.Fine {
				t.Error(k, c, e)
			}
		}
	}
}

// P16.1, P16.2: full trees: all points of few bits, at both end levels; all of them put anew, taken away, or but for one.

func TestFullTrees(t *testing.T) {
	for k := 1; k <= 5; k++ {
		n := chance(70 + k)
		digits := 2
		if k > 3 {
			digits = 1
		}
		for _, low := range []int{0, 64 - digits} {
			var l, m []api.Entry
			for place := range 1 << (digits * k) {
				p := all(k, 0)
				for i := range p {
					p[i] = uint64(place>>(digits*i)) << (64 - digits) >> (64 - digits - low)
				}
				l = append(l, at(n.value(), p...))
				m = append(m, at(uint64(place), p...))
			}
			v := mustVersion(t, k, l...)
			if v.x.Len() != 1<<(digits*k) || v.x.Root().Level() != low+digits-1 {
				t.Fatal(k, low, v.x.Len(), v.x.Root().Level())
			}
			checkFull(t, &n, v, m)
		}
	}
}

// checkFull: m are other values of the same points.
func checkFull(t *testing.T, n *chance, v version, m []api.Entry) {
	t.Helper()
	checkMake(t, v.x.K(), mixed(n, v.l))
	checkPuts(t, v, mixed(n, v.l))
	checkPuts(t, v, mixed(n, m))
	checkPuts(t, v, m[len(m)/2:])
	points := mixed(n, pointsOf(m))
	checkDels(t, v, points)
	checkDels(t, v, slices.Concat(points, points))
	for some := range len(points) {
		checkDels(t, v, points[:some])
		if some%5 == 0 {
			left := mustVersion(t, v.x.K(), plainDels(v.l, points[:some])...)
			checkPuts(t, left, mixed(n, m))
			checkDels(t, left, points)
		}
	}
	checkValues(t, v, 0, 1, 2, top-1, top)
}

// P16.1: Dels of points that are there, that aren't, that are named twice; how many they were.

func TestHowManyDels(t *testing.T) {
	x := mustVersion(t, 2, at(3, 4, 0), at(0, 7, 3), at(2, 0, 8))
	for i, c := range []struct {
		points [][]uint64
		want   int
	}{
		{nil, 0},
		{[][]uint64{{4, 0}}, 1},
		{[][]uint64{{4, 0}, {4, 0}, {4, 0}}, 1},
		{[][]uint64{{7, 3}, {4, 0}, {7, 3}}, 2},
		{[][]uint64{{0, 8}, {7, 3}, {4, 0}}, 3},
		{[][]uint64{{0, 8}, {7, 3}, {4, 0}, {0, 8}, {7, 3}, {4, 0}, {1, 1}}, 3},
		{[][]uint64{{4, 1}, {0, 0}, {top, top}, {4, 1}}, 0},
		{[][]uint64{{4, 1}, {0, 8}, {top, top}, {8, 0}}, 1},
	} {
		y, n, e := Dels(x.x, c.points)
		if n != c.want || y.Len() != 3-c.want || e != api.Fine || (y == x.x) != (c.want == 0) {
			t.Error(i, n, e)
		}
		checkDels(t, x, c.points)
	}
}

// P16.1, T5: the very nodes, where one kid is left, and beside what was changed.

func TestTheVeryNodes(t *testing.T) {
	x := mustVersion(t, 2, at(3, 4, 0), at(1, 7, 3), at(2, 0, 8)).x
	inner, far := x.Root().Kid(0), x.Root().Kid(1)
	for i, c := range []struct {
		points [][]uint64
		want   *node.Node
	}{
		{[][]uint64{{0, 8}}, inner},
		{[][]uint64{{0, 8}, {4, 0}}, inner.Kid(3)},
		{[][]uint64{{7, 3}, {0, 8}}, inner.Kid(0)},
		{[][]uint64{{7, 3}, {4, 0}}, far},
		{[][]uint64{{4, 0}, {0, 8}, {7, 3}}, nil},
	} {
		if y, _, e := Dels(x, c.points); y.Root() != c.want || e != api.Fine {
			t.Error(i, "not the very node", e)
		}
	}
	y, e := Puts(x, []api.Entry{at(9, 0, 8), at(3, 4, 0)})
	if e != api.Fine || y.Root().Kid(0) != inner || y.Root().Kid(1) == far {
		t.Error("not the very node", e)
	}
	y, e = Puts(x, []api.Entry{at(9, 1<<40, 0), at(2, 0, 8)})
	if e != api.Fine || y.Root().Kid(0) != x.Root() {
		t.Error("not the very node below the root", e)
	}
	y, e = Map(x, Floor, 2)
	if e != api.Fine || y.Root().Kid(1) != far || y.Root().Kid(0).Kid(0) != inner.Kid(0) || y.Root().Kid(0).Kid(3) == inner.Kid(3) {
		t.Error("not the very nodes", e)
	}
	for i, c := range []struct {
		lo, hi uint64
		want   *node.Node
	}{{1, 1, inner.Kid(3)}, {2, 2, far}, {3, 9, inner.Kid(0)}, {4, 9, nil}} {
		if y, e = Where(x, c.lo, c.hi); y.Root() != c.want || e != api.Fine {
			t.Error(i, "not the very node", e)
		}
	}
	if y, e = Where(x, 1, 2); e != api.Fine || y.Root().Kid(0) != inner.Kid(3) || y.Root().Kid(1) != far {
		t.Error("not the very nodes", e)
	}
}

// P16.1, P16.2: nodes all of whose kids go, but one, or a few; slots that become dense, or sparse.

func TestKidsThatGo(t *testing.T) {
	for k := 2; k <= 5; k++ {
		var l []api.Entry
		for addr := range 1 << k {
			p := all(k, 0)
			for i := range p {
				p[i] = uint64(addr>>i&1)<<20 | uint64(addr)
			}
			l = append(l, at(uint64(addr), p...), at(uint64(addr)+100, append(slices.Clone(p[:k-1]), p[k-1]^1<<10)...))
		}
		full := mustVersion(t, k, l...)
		for some := range len(l) + 1 {
			checkDels(t, full, pointsOf(l[:some]))
			checkDels(t, full, pointsOf(l[some:]))
			if some < len(l) {
				checkDels(t, full, pointsOf(plainDels(l, [][]uint64{l[some].P})))
				checkWhere(t, full, l[some].V, l[some].V)
			}
			checkPuts(t, mustVersion(t, k, l[:some]...), l[some:])
			checkPuts(t, mustVersion(t, k, l[:some]...), l)
			checkWhere(t, full, uint64(some), 1000)
			checkWhere(t, full, 0, uint64(some))
			checkMap(t, full, uint64(some))
		}
	}
}

// P16.1, P16.2: one node with many kids, a few or many of which become others, go, or are new.

func TestWide(t *testing.T) {
	const k = 16
	point := func(place int) []uint64 {
		p := all(k, 0)
		for i := range p {
			p[i] = uint64(place*37>>i&1) << 9
		}
		return p
	}
	var l []api.Entry
	for place := range 500 {
		l = append(l, at(uint64(place), point(place)...))
	}
	v := mustVersion(t, k, l[:400]...)
	for _, by := range []int{1, 2, 3, 5, 6, 7, 8, 40, 399} {
		var some, others []api.Entry
		for place := 0; place < 500; place += by {
			some = append(some, l[place])
			others = append(others, at(l[place].V+1, l[place].P...))
		}
		checkPuts(t, v, some)
		checkPuts(t, v, others)
		checkPuts(t, v, others[:len(others)*4/5])
		checkDels(t, v, pointsOf(some))
		checkDels(t, v, pointsOf(plainDels(l, pointsOf(some))))
		checkWhere(t, v, 0, uint64(400/by))
		checkWhere(t, v, uint64(400/by), top)
		checkMap(t, v, uint64(400/by))
	}
}

// P16.1, P16.2: 64 nodes, each below the one before it.

func TestDeep(t *testing.T) {
	for _, k := range []int{1, 2, 16} {
		n := chance(90 + k)
		var l, m []api.Entry
		for level := range 64 {
			l = append(l, at(uint64(level), all(k, 1<<level)...))
			p := all(k, 0)
			p[level%k] = 1<<level ^ 1
			m = append(m, at(uint64(level)/2, p...))
		}
		l = append(l, at(99, all(k, 0)...))
		v := mustVersion(t, k, l...)
		checkMake(t, k, mixed(&n, l))
		checkPuts(t, v, mixed(&n, m))
		checkPuts(t, v, mixed(&n, slices.Concat(l, m)))
		for _, i := range []int{0, 1, 31, 62, 63, 64} {
			checkPuts(t, v, []api.Entry{at(5, l[i].P...)})
			checkPuts(t, mustVersion(t, k, l[i]), mixed(&n, slices.Concat(m, l)))
			checkDels(t, v, pointsOf(l[:i]))
			checkDels(t, v, pointsOf(l[i:]))
			checkDels(t, v, pointsOf(slices.Concat(m, l[i:], l[i:])))
			checkWhere(t, v, uint64(i), 63)
			checkMap(t, v, uint64(i))
		}
	}
}

// P16.3: Make is what Puts makes of no entries, at once or by and by, whatever order unlike points stand in.

func TestAtOnceOrByAndBy(t *testing.T) {
	for k := 1; k <= 16; k++ {
		n := chance(110 + k)
		for _, level := range []int{0, 3, 40, 63} {
			l := n.entries(k, level, 40)
			x, e := Make(k, l)
			checkTree(t, x, e, k, plainPuts(nil, l))
			for range 3 {
				y, e := Make(k, mixed(&n, walk.All(x.Root())))
				if e != api.Fine || !reflect.DeepEqual(x.Shapes(), y.Shapes()) {
					t.Fatal(k, level, "other shapes in another order", e)
				}
				some := n.below(len(l) + 1)
				y, _ = tree.New(k)
				for _, part := range [][]api.Entry{l[:some/2], l[some/2 : some], nil, l[some:]} {
					if y, e = Puts(y, part); e != api.Fine {
						t.Fatal(k, level, e)
					}
				}
				if !reflect.DeepEqual(x.Shapes(), y.Shapes()) {
					t.Fatal(k, level, "other shapes by and by")
				}
				z, _, e := Dels(y, pointsOf(l))
				if e != api.Fine || z.Root() != nil {
					t.Fatal(k, level, "something is left", e)
				}
			}
		}
	}
}

// P16.1, P16.2: many entries.

func TestMany(t *testing.T) {
	for _, k := range []int{1, 2, 3, 16} {
		n := chance(130 + k)
		values := map[[api.MaxK]uint64]uint64{}
		var l []api.Entry
		for range 30000 {
			var p [api.MaxK]uint64
			for i := range min(k, 3) {
				p[i] = uint64(n.below(1 << (15 / min(k, 3))))
			}
			l = append(l, at(n.value(), p[:k]...))
			values[p] = l[len(l)-1].V
		}
		x, e := Make(k, l)
		if e != api.Fine || x.Len() != len(values) {
			t.Fatal(k, x.Len(), e)
		}
		for p, v := range values {
			if got, is, _ := x.Get(p[:k]); got != v || !is {
				t.Fatal(k, p, got, is, "not", v)
			}
		}
		if y, e := Puts(x, walk.All(x.Root())); y != x || e != api.Fine {
			t.Error(k, "not the very same tree", e)
		}
		low, e := Where(x, 0, 2)
		high, f := Where(x, 3, top)
		if e != api.Fine || f != api.Fine || low.Len()+high.Len() != x.Len() {
			t.Fatal(k, low.Len(), e, high.Len(), f)
		}
		y, some, e := Dels(x, pointsOf(walk.All(high.Root())))
		if e != api.Fine || some != high.Len() || !reflect.DeepEqual(y.Shapes(), low.Shapes()) {
			t.Error(k, some, e)
		}
		y, e = Map(x, Cap, 1)
		if e != api.Fine || y.Root().Sums().Max > 1 || y.Len() != x.Len() {
			t.Error(k, y.Root().Sums(), e)
		}
	}
}

// R4: what is handed in isn't changed or kept, in whatever room its lists stand; what is told is the caller's.

func TestListsAreTheCallers(t *testing.T) {
	room := []api.Entry{at(3, 7, 3), at(2, 0, 8), at(1, 4, 0), at(5, 7, 3), at(9, 9, 9)}
	want := []api.Entry{at(1, 4, 0), at(5, 7, 3), at(2, 0, 8)}
	was := fmt.Sprint(room)
	x, e := Make(2, room[:4])
	checkTree(t, x, e, 2, want)
	y, e := Puts(x, room[:4])
	if y != x || e != api.Fine {
		t.Error("not the very same tree", e)
	}
	points := [][]uint64{{7, 3}, {0, 8}, {7, 3}, {1, 1}, {4, 0}}
	wasPoints := fmt.Sprint(points)
	less, n, e := Dels(x, points[:4])
	checkTree(t, less, e, 2, want[:1])
	if n != 2 || fmt.Sprint(room) != was || fmt.Sprint(points) != wasPoints {
		t.Error(n, room, points)
	}
	more, e := Puts(less, room[3:])
	checkTree(t, more, e, 2, []api.Entry{at(1, 4, 0), at(5, 7, 3), at(9, 9, 9)})
	for _, entry := range room {
		clear(entry.P)
	}
	clear(room)
	for _, p := range points {
		clear(p)
	}
	clear(points)
	for _, entry := range walk.All(more.Root()) {
		clear(entry.P)
	}
	checkTree(t, x, api.Fine, 2, want)
	checkTree(t, less, api.Fine, 2, want[:1])
	checkTree(t, more, api.Fine, 2, []api.Entry{at(1, 4, 0), at(5, 7, 3), at(9, 9, 9)})
}

// Lists that have one point in common in memory are as good as any.

func TestOnePointInMemory(t *testing.T) {
	p := []uint64{4, 0}
	x, e := Make(2, []api.Entry{{P: p, V: 1}, {P: p, V: 2}, {P: p[:2:2], V: 3}})
	checkTree(t, x, e, 2, []api.Entry{at(3, 4, 0)})
	less, n, e := Dels(x, [][]uint64{p, p})
	checkTree(t, less, e, 2, nil)
	if n != 1 {
		t.Error(n)
	}
}

// P16.1: wrong inputs: the first error that holds, with nothing beside it, and nothing changed.

// checkRefused: the calls that take points, of a tree, or nil.
func checkRefused(t *testing.T, x *tree.Tree, points [][]uint64, want api.Code) {
	t.Helper()
	var l []api.Entry
	for i, p := range points {
		l = append(l, at(uint64(i), p...))
	}
	if y, e := Puts(x, l); y != nil || e != want {
		t.Error("puts", len(points), y, e, "not", want)
	}
	if y, n, e := Dels(x, points); y != nil || n != 0 || e != want {
		t.Error("dels", len(points), y, n, e, "not", want)
	}
}

func TestWrongPoints(t *testing.T) {
	for k := 1; k <= 16; k++ {
		n := chance(150 + k)
		for _, most := range []int{0, 1, 9} {
			v := mustVersion(t, k, n.entries(k, 4, most)...)
			right := slices.Concat(pointsOf(v.l), [][]uint64{all(k, 1), all(k, top)})
			for _, other := range []int{0, 1, 2, k - 1, k + 1, 15, 16, 17, 32, 1<<16 + k} {
				if other == k {
					continue
				}
				checkRefused(t, v.x, [][]uint64{all(other, 1)}, api.Dim)
				for i := range len(right) + 1 {
					points := slices.Insert(slices.Clone(right), i, all(other, 1))
					checkRefused(t, v.x, points, api.Dim)
					checkRefused(t, nil, points, api.Nil)
				}
			}
			checkRefused(t, v.x, [][]uint64{nil}, api.Dim)
			checkRefused(t, v.x, append(slices.Clone(right), nil), api.Dim)
			checkTree(t, v.x, api.Fine, k, v.l)
		}
	}
}

func TestWrongMake(t *testing.T) {
	lists := [][]api.Entry{nil, {}, {at(1)}, {at(1, 1)}, {at(1, 1, 2)}, {at(1, all(16, 1)...)}, {at(1, all(17, 1)...)}, {at(1, 1), at(1)}}
	for _, k := range []int{0, 17, -1, -2, -16, 18, 32, 256, 257, 1 << 32, 1<<32 + 1, math.MinInt, math.MaxInt} {
		for i, l := range lists {
			if x, e := Make(k, l); x != nil || e != api.Arg {
				t.Error(k, i, x, e)
			}
		}
	}
	for k := 1; k <= 16; k++ {
		for _, other := range []int{0, 1, k - 1, k + 1, 16, 17, 1<<16 + k} {
			if other == k {
				continue
			}
			for _, l := range [][]api.Entry{
				{at(1, all(other, 1)...)},
				{at(1, all(k, 1)...), at(1, all(other, 1)...)},
				{at(1, all(other, 1)...), at(1, all(k, 1)...), at(1, all(k, 1)...)},
				{at(1, all(k, 1)...), at(1, all(other, 1)...), at(1, all(k, 1)...)},
			} {
				if x, e := Make(k, l); x != nil || e != api.Dim {
					t.Error(k, other, x, e)
				}
			}
		}
		if x, e := Make(k, []api.Entry{{}}); x != nil || e != api.Dim {
			t.Error(k, x, e)
		}
	}
}

func TestNil(t *testing.T) {
	for _, points := range [][][]uint64{nil, {}, {nil}, {{1}}, {{1}, {1, 2}}, {all(17, 0)}} {
		checkRefused(t, nil, points, api.Nil)
	}
	for _, rule := range append([]int{0, 6, -1, math.MinInt, math.MaxInt}, rules...) {
		if x, e := Map(nil, rule, 1); x != nil || e != api.Nil {
			t.Error(rule, x, e)
		}
	}
	for _, c := range [][2]uint64{{0, 0}, {0, top}, {top, 0}, {5, 5}} {
		if x, e := Where(nil, c[0], c[1]); x != nil || e != api.Nil {
			t.Error(c, x, e)
		}
	}
}

func TestWrongRules(t *testing.T) {
	one, many := mustVersion(t, 1, at(1, 1)), mustVersion(t, 2, at(3, 4, 0), at(1, 7, 3), at(2, 0, 8))
	for _, rule := range []int{math.MinInt, -1 << 32, -6, -5, -4, -3, -2, -1, 0, 6, 7, 100, 256, 257, 1<<32 + 1, 1<<32 + 5, math.MaxInt} {
		for _, v := range []version{mustVersion(t, 16), one, many} {
			for _, c := range []uint64{0, 1, top} {
				if x, e := Map(v.x, rule, c); x != nil || e != api.Kind {
					t.Error(rule, c, x, e)
				}
			}
			checkTree(t, v.x, api.Fine, v.x.K(), v.l)
		}
	}
}

// R1: a tree that no call made has no coordinates, so that no point is one of it.

func TestNotMade(t *testing.T) {
	x := new(tree.Tree)
	for _, points := range [][][]uint64{{nil}, {{}}, {{1}}, {{}, {1, 2}}, {all(16, 0)}, {all(17, 0)}} {
		checkRefused(t, x, points, api.Dim)
	}
	for _, rule := range rules {
		if y, e := Map(x, rule, 7); y != x || e != api.Fine {
			t.Error(rule, y, e)
		}
	}
	if y, e := Where(x, 1, 0); y != x || e != api.Fine {
		t.Error(y, e)
	}
	if y, e := Puts(x, nil); y != x || e != api.Fine {
		t.Error(y, e)
	}
	if y, n, e := Dels(x, nil); y != x || n != 0 || e != api.Fine {
		t.Error(y, n, e)
	}
	for _, rule := range []int{0, 6, -1} {
		if y, e := Map(x, rule, 7); y != nil || e != api.Kind {
			t.Error(rule, y, e)
		}
	}
}
