package rank

import (
	"math"
	"reflect"
	"slices"
	"strconv"
	"testing"

	"pantile/api"
	"pantile/node"
	"pantile/tree"
	"pantile/walk"
)

// greatest is the greatest coordinate, and the greatest value.
const greatest = math.MaxUint64

// chance makes numbers that look like chance, and are the same in each run.
type chance uint64

func (n *chance) below(most int) int {
	*n = *n*6364136223846793005 + 1442695040888963407
	return int(uint64(*n)>>33) % most
}

// point is a point whose bits above a level are those of all others.
func (n *chance) point(k, level int) []uint64 {
	p := all(k, 0xA5A5A5A5A5A5A5A5)
	for i := range p {
		for range 1 + n.below(2) {
			p[i] ^= 1 << n.below(level+1)
		}
	}
	return p
}

// entries are up to most entries with unlike points, that part at a level, or below, in z-order.
func (n *chance) entries(k, level, most int) []api.Entry {
	var l []api.Entry
	for range most {
		l = append(l, at(uint64(n.below(1<<20))<<n.below(45), n.point(k, level)...))
	}
	return inOrder(l)
}

// at is an entry.
func at(v uint64, p ...uint64) api.Entry {
	return api.Entry{P: p, V: v}
}

// all has the same coordinate K times.
func all(k int, c uint64) []uint64 {
	return slices.Repeat([]uint64{c}, k)
}

// ones are entries of one coordinate, each with its coordinate as its value.
func ones(coordinates ...uint64) []api.Entry {
	var l []api.Entry
	for _, c := range coordinates {
		l = append(l, at(c, c))
	}
	return l
}

// Plain readings: bit by bit, and entry by entry.

// plainCmp goes down from the highest level to the first one at which the addresses aren't the same.
func plainCmp(p, q []uint64) int {
	for level := 63; level >= 0; level-- {
		for i, c := range p {
			if a, b := c/(1<<level)%2, q[i]/(1<<level)%2; a != b {
				return int(a) - int(b)
			}
		}
	}
	return 0
}

// inOrder are the entries in z-order, one of each point.
func inOrder(l []api.Entry) []api.Entry {
	slices.SortStableFunc(l, func(x, y api.Entry) int { return plainCmp(x.P, y.P) })
	return slices.CompactFunc(l, func(x, y api.Entry) bool { return slices.Equal(x.P, y.P) })
}

// plainRank is how many of the entries are ahead of a point.
func plainRank(l []api.Entry, p []uint64) int {
	rank := 0
	for _, x := range l {
		if plainCmp(x.P, p) < 0 {
			rank++
		}
	}
	return rank
}

// plainRange are the entries whose numbers aren't below from, but below to.
func plainRange(l []api.Entry, from, to int) []api.Entry {
	var some []api.Entry
	for i, x := range l {
		if i >= from && i < to {
			some = append(some, x)
		}
	}
	return some
}

// plainAhead tells whether each entry of the one list is ahead of each one of the other list, both in z-order.
func plainAhead(l, m []api.Entry) bool {
	return len(l) == 0 || len(m) == 0 || plainCmp(l[len(l)-1].P, m[0].P) < 0
}

func sameEntry(x, y api.Entry) bool {
	return x.V == y.V && slices.Equal(x.P, y.P)
}

// nodesOf are all nodes from n down.
func nodesOf(n *node.Node) []*node.Node {
	if n == nil {
		return nil
	}
	list := []*node.Node{n}
	for _, addr := range n.Shape().Places {
		list = append(list, nodesOf(n.Kid(addr))...)
	}
	return list
}

// keyOf says where a node stands: there is no other one of its tree at that level and prefix.
func keyOf(n *node.Node) string {
	key := strconv.Itoa(n.Level())
	for _, c := range n.Prefix() {
		key += " " + strconv.FormatUint(c, 16)
	}
	return key
}

// mustMake puts entries one after the other.
func mustMake(t *testing.T, k int, l []api.Entry) *tree.Tree {
	t.Helper()
	x, e := tree.New(k)
	if e != api.Fine {
		t.Fatal("new", k, e)
	}
	for _, entry := range l {
		if x, e = x.Put(entry.P, entry.V); e != api.Fine {
			t.Fatal("put", entry, e)
		}
	}
	return x
}

// Checks: each asks a tree with the entries l, in z-order.

// checkAll asks for all points, and for all numbers.
func checkAll(t *testing.T, x *tree.Tree, l []api.Entry, points [][]uint64) {
	t.Helper()
	checkNumbers(t, x, l)
	for _, p := range points {
		checkPoint(t, x, l, p)
	}
}

// checkNumbers asks for the entries by their numbers, one by one and in a row.
func checkNumbers(t *testing.T, x *tree.Tree, l []api.Entry) {
	t.Helper()
	n := len(l)
	for i := -2; i < n+3; i++ {
		checkNth(t, x, l, i)
	}
	for i, entry := range l {
		if rank, e := Of(x, entry.P); rank != i || e != api.Fine {
			t.Fatal("of", entry, "told", rank, e, "not", i)
		}
	}
	ends := []int{math.MinInt, -n, -1, 0, 1, n / 2, n - 1, n, n + 1, 2 * n, math.MaxInt}
	for _, from := range ends {
		checkNth(t, x, l, from)
		for _, to := range ends {
			checkRange(t, x, l, from, to)
		}
	}
}

func checkNth(t *testing.T, x *tree.Tree, l []api.Entry, n int) {
	t.Helper()
	var want api.Entry
	there := n >= 0 && n < len(l)
	if there {
		want = l[n]
	}
	if got, is, e := Nth(x, n); e != api.Fine || is != there || !sameEntry(got, want) {
		t.Fatal("nth", n, "told", got, is, e, "not", want, there)
	}
}

func checkRange(t *testing.T, x *tree.Tree, l []api.Entry, from, to int) {
	t.Helper()
	want := plainRange(l, from, to)
	if got, e := Range(x, from, to); e != api.Fine || !slices.EqualFunc(got, want, sameEntry) {
		t.Fatal("range", from, to, "told", got, e, "not", want)
	}
}

// checkPoint asks for the rank of a point, parts the tree there, and joins it again.
func checkPoint(t *testing.T, x *tree.Tree, l []api.Entry, p []uint64) {
	t.Helper()
	root, asked := x.Root(), slices.Clone(p)
	n := plainRank(l, p)
	if rank, e := Of(x, p); rank != n || e != api.Fine {
		t.Fatal("of", p, "told", rank, e, "not", n)
	}
	ahead, others, e := Part(x, p)
	checkPart(t, x, ahead, e, l[:n])
	checkPart(t, x, others, e, l[n:])
	checkTogether(t, x, ahead, others, p)
	checkJoin(t, ahead, others, l[:n], l[n:])
	if x.Root() != root || !slices.Equal(asked, p) {
		t.Fatal("what was handed in has become another one", asked, p)
	}
}

// checkPart: y is x with just the entries l, node by node, and has all nodes in common with x that it can have.
func checkPart(t *testing.T, x, y *tree.Tree, e api.Code, l []api.Entry) {
	t.Helper()
	checkMade(t, y, e, x.K(), l)
	checkShared(t, y, x)
	if (x == y) != (x.Len() == len(l)) {
		t.Fatal("a part has", len(l), "of", x.Len(), "and is the very same tree:", x == y)
	}
}

// checkMade: y has just the entries l, and is as if these had been put.
func checkMade(t *testing.T, y *tree.Tree, e api.Code, k int, l []api.Entry) {
	t.Helper()
	if e != api.Fine || y == nil {
		t.Fatal("told", e, "not", l)
	}
	want := mustMake(t, k, l)
	if y.K() != k || y.Len() != len(l) || y.Root().Sums() != want.Root().Sums() || !reflect.DeepEqual(y.Shapes(), want.Shapes()) {
		t.Fatal("told", y.K(), y.Shapes(), "not", l)
	}
}

// checkShared: no node of y is another one than that of the trees that has its entries.
func checkShared(t *testing.T, y *tree.Tree, trees ...*tree.Tree) {
	t.Helper()
	old := map[string]*node.Node{}
	for _, x := range trees {
		for _, n := range nodesOf(x.Root()) {
			// Two trees may have a node at one place: the greater one's entries may be all of y's there.
			if was := old[keyOf(n)]; was == nil || was.Sums().Count < n.Sums().Count {
				old[keyOf(n)] = n
			}
		}
	}
	for _, n := range nodesOf(y.Root()) {
		if was := old[keyOf(n)]; was != nil && was.Sums().Count == n.Sums().Count && was != n {
			t.Fatal("a node was made anew:", n.Shape())
		}
	}
}

// checkTogether: what the calls tell of a point goes together, and with what walk tells.
func checkTogether(t *testing.T, x, ahead, others *tree.Tree, p []uint64) {
	t.Helper()
	rank, _ := Of(x, p)
	if rank != ahead.Len() || x.Len()-rank != others.Len() {
		t.Fatal("the rank", rank, "of", p, "isn't that of the parts", ahead.Len(), others.Len())
	}
	first, _ := Range(x, 0, rank)
	rest, _ := Range(x, rank, x.Len())
	if !slices.EqualFunc(first, walk.All(ahead.Root()), sameEntry) || !slices.EqualFunc(rest, walk.All(others.Root()), sameEntry) {
		t.Fatal("the parts at", p, "aren't", first, rest)
	}
	next, is, _ := Nth(x, rank)
	if from, there := walk.From(x.Root(), p); is != there || !sameEntry(next, from) {
		t.Fatal("at", p, "comes", next, is, "and", from, there)
	}
}

// checkJoin joins the trees of two lists in both orders.
func checkJoin(t *testing.T, a, b *tree.Tree, l, m []api.Entry) {
	t.Helper()
	checkJoined(t, a, b, l, m)
	checkJoined(t, b, a, m, l)
}

func checkJoined(t *testing.T, a, b *tree.Tree, l, m []api.Entry) {
	t.Helper()
	y, e := Join(a, b)
	if !plainAhead(l, m) {
		if y != nil || e != api.Conflict {
			t.Fatal("join", l, m, "told", y, e)
		}
		return
	}
	checkMade(t, y, e, a.K(), slices.Concat(l, m))
	checkShared(t, y, a, b)
	if len(m) == 0 && len(l) > 0 && y != a || len(l) == 0 && len(m) > 0 && y != b {
		t.Fatal("join", l, m, "isn't the very same tree")
	}
	// What was joined can be parted as it was.
	if len(m) > 0 {
		first, second, e := Part(y, m[0].P)
		checkMade(t, first, e, a.K(), l)
		checkMade(t, second, e, a.K(), m)
		checkShared(t, first, y)
		checkShared(t, second, y)
	}
}

// pointsFor are points that are entries, that are just beside one, at both ends of each node's cell and just outside, ahead of all and behind all.
func pointsFor(n *chance, k int, l []api.Entry, nodes []*node.Node) [][]uint64 {
	points := [][]uint64{all(k, 0), all(k, 1), all(k, 1<<63-1), all(k, 1<<63), all(k, greatest-1), all(k, greatest)}
	beside := func(p []uint64) {
		i := n.below(k)
		up, down := slices.Clone(p), slices.Clone(p)
		up[i]++
		down[i]--
		points = append(points, slices.Clone(p), up, down)
	}
	for _, x := range l {
		beside(x.P)
	}
	for _, x := range nodes {
		low, high := x.Prefix(), x.Prefix()
		for i := range high {
			high[i] |= 1<<(x.Level()+1) - 1
		}
		beside(low)
		beside(high)
	}
	for range 10 {
		points = append(points, n.point(k, n.below(64)))
	}
	return points
}

// P10.1, P10.2: the chapter's example.

func TestExample(t *testing.T) {
	l := []api.Entry{at(3, 4, 0), at(1, 7, 3), at(2, 0, 8)}
	x := mustMake(t, 2, []api.Entry{l[1], l[2], l[0]})
	if rank, e := Of(x, []uint64{7, 7}); rank != 2 || e != api.Fine {
		t.Error(rank, e)
	}
	if rank, e := Of(x, []uint64{7, 3}); rank != 1 || e != api.Fine {
		t.Error(rank, e)
	}
	if entry, is, e := Nth(x, 2); !sameEntry(entry, l[2]) || !is || e != api.Fine {
		t.Error(entry, is, e)
	}
	if some, e := Range(x, -7, 2); !slices.EqualFunc(some, l[:2], sameEntry) || e != api.Fine {
		t.Error(some, e)
	}
	ahead, others, e := Part(x, []uint64{7, 7})
	if e != api.Fine || ahead.Root() != x.Root().Kid(0) || others.Root() != x.Root().Kid(1) {
		t.Error(ahead.Shapes(), others.Shapes(), e)
	}
	y, e := Join(ahead, others)
	if e != api.Fine || !reflect.DeepEqual(y.Shapes(), x.Shapes()) || y.Root().Kid(0) != x.Root().Kid(0) {
		t.Error(y.Shapes(), e)
	}
	checkAll(t, x, l, [][]uint64{{0, 0}, {4, 0}, {4, 1}, {7, 3}, {7, 7}, {0, 8}, {8, 0}, {greatest, greatest}})
}

// P10.1 to P10.3: all lists of points of three bits, all points there, and all numbers.

func TestAllOfThreeBits(t *testing.T) {
	points := [][]uint64{{greatest}, {1 << 63}}
	for c := range uint64(10) {
		points = append(points, []uint64{c})
	}
	for set := range 1 << 8 {
		l := ofSet(set)
		x := mustMake(t, 1, l)
		checkAll(t, x, l, points)
		for from := -1; from < 10; from++ {
			for to := -1; to < 10; to++ {
				checkRange(t, x, l, from, to)
			}
		}
	}
}

// ofSet are the entries of one coordinate whose bits a number has.
func ofSet(set int) []api.Entry {
	var l []api.Entry
	for c := range uint64(8) {
		if set>>c&1 == 1 {
			l = append(l, at(c*7%5, c))
		}
	}
	return l
}

// P10.2: all pairs of lists of points of three bits: ahead of each other, touching, and not.

func TestJoinAllOfThreeBits(t *testing.T) {
	var lists [][]api.Entry
	var trees []*tree.Tree
	for set := range 1 << 8 {
		lists = append(lists, ofSet(set))
		trees = append(trees, mustMake(t, 1, lists[set]))
	}
	for i, a := range trees {
		for j, b := range trees {
			checkJoined(t, a, b, lists[i], lists[j])
		}
	}
}

// P10.1 to P10.3: some lists of points of two bits, twice, and all points there.

func TestPointsOfTwoBits(t *testing.T) {
	n := chance(5)
	var points [][]uint64
	for i := range uint64(36) {
		points = append(points, []uint64{i / 6, i % 6})
	}
	for range 60 {
		var l []api.Entry
		for i := range uint64(16) {
			if n.below(3) > 0 {
				l = append(l, at(uint64(n.below(9)), i/4, i%4))
			}
		}
		l = inOrder(l)
		checkAll(t, mustMake(t, 2, l), l, points)
	}
}

// P10.1 to P10.3: any entries of each K, that part at levels at their ends and between.

func TestAnyEntries(t *testing.T) {
	for k := 1; k <= 16; k++ {
		n := chance(k)
		for _, level := range []int{0, 1, 5, 31, 62, 63} {
			l := n.entries(k, level, 1+n.below(12))
			x := mustMake(t, k, l)
			checkAll(t, x, l, pointsFor(&n, k, l, nodesOf(x.Root())))
		}
	}
}

// P10.1 to P10.3: trees without entries, and with one.

func TestNoneAndOne(t *testing.T) {
	for k := 1; k <= 16; k++ {
		n := chance(50 + k)
		none := mustMake(t, k, nil)
		checkAll(t, none, nil, pointsFor(&n, k, nil, nil))
		checkJoin(t, none, mustMake(t, k, nil), nil, nil)
		for _, c := range []uint64{0, 1, 5, 1<<63 - 1, 1 << 63, greatest} {
			l := []api.Entry{at(c, all(k, c)...)}
			x := mustMake(t, k, l)
			checkAll(t, x, l, pointsFor(&n, k, l, nodesOf(x.Root())))
			checkJoin(t, x, x, l, l)
			checkJoin(t, x, none, l, nil)
			for _, d := range []uint64{0, 2, 4, 6, 1 << 62, greatest - 1} {
				m := []api.Entry{at(d, all(k, d)...)}
				checkJoin(t, x, mustMake(t, k, m), l, m)
			}
		}
	}
}

// P10.1 to P10.3: a way down each level, along its earlier kids, its later ones, and both, parted at each entry.

func TestLongWay(t *testing.T) {
	for _, k := range []int{1, 2, 16} {
		for _, ground := range []uint64{0, greatest, 0x5555555555555555} {
			l := []api.Entry{at(99, all(k, ground)...)}
			for level := range 64 {
				q := all(k, ground)
				q[level%k] ^= 1 << level
				l = append(l, at(uint64(level), q...))
			}
			l = inOrder(l)
			x := mustMake(t, k, l)
			if x.Root().Level() != 63 || len(nodesOf(x.Root())) != 129 {
				t.Fatal(k, ground, x.Root().Level())
			}
			checkNumbers(t, x, l)
			for _, entry := range l {
				checkPoint(t, x, l, entry.P)
			}
			beside := all(k, ground)
			beside[0] ^= 3
			checkPoint(t, x, l, beside)
		}
	}
}

// P10.1 to P10.3: nodes with kids at many addresses, parted at each of some kids, within it, and where there is none.

func TestManyKids(t *testing.T) {
	for _, k := range []int{1, 2, 3, 6, 7, 11, 16} {
		n := chance(400 + k)
		for _, level := range []int{0, 40, 63} {
			l := manyKids(&n, k, level)
			x := mustMake(t, k, l)
			checkNumbers(t, x, l)
			for range 12 {
				p := slices.Clone(l[n.below(len(l))].P)
				checkPoint(t, x, l, p)
				p[n.below(k)] ^= 1 << n.below(level+1)
				checkPoint(t, x, l, p)
			}
			for _, p := range [][]uint64{l[0].P, l[len(l)-1].P, all(k, 0), all(k, greatest)} {
				checkPoint(t, x, l, p)
			}
			checkCuts(t, &n, k, l)
		}
	}
}

// manyKids are entries at up to 150 addresses of one level, some with another one beside them, if there is a level below.
func manyKids(n *chance, k, level int) []api.Entry {
	var l []api.Entry
	for i := range min(1<<k, 150) {
		addr := i * ((1 << k) / min(1<<k, 150))
		p := make([]uint64, k)
		for j := range p {
			p[j] = uint64(addr>>(k-1-j)&1) << level
		}
		l = append(l, at(uint64(i*i%31), p...))
		if level > 0 && n.below(4) == 0 {
			q := slices.Clone(p)
			q[n.below(k)] |= 1 << n.below(level)
			l = append(l, at(uint64(i), q...))
		}
	}
	return inOrder(l)
}

// checkCuts joins the trees of lists that touch, that leave some out between them, and that have one point in common.
func checkCuts(t *testing.T, n *chance, k int, l []api.Entry) {
	t.Helper()
	for range 6 {
		i, j := n.below(len(l)+1), n.below(len(l)+1)
		first, second := l[:min(i, j)], l[max(i, j):]
		checkJoin(t, mustMake(t, k, first), mustMake(t, k, second), first, second)
		first, second = l[:i], l[i:]
		checkJoin(t, mustMake(t, k, first), mustMake(t, k, second), first, second)
		if i < len(l) {
			first = l[:i+1]
			checkJoin(t, mustMake(t, k, first), mustMake(t, k, second), first, second)
		}
	}
}

// P10.2: lists of any entries that touch, that don't, and that have a point in common.

func TestJoinAny(t *testing.T) {
	for k := 1; k <= 16; k++ {
		n := chance(800 + k)
		for _, level := range []int{0, 2, 9, 33, 63} {
			checkCuts(t, &n, k, n.entries(k, level, 30))
			// Entries of one neighbourhood, taken by turns: not all of the ones are ahead of all others.
			l := n.entries(k, level, 12)
			var first, second []api.Entry
			for _, entry := range l {
				if n.below(2) == 0 {
					first = append(first, entry)
				} else {
					second = append(second, entry)
				}
			}
			checkJoin(t, mustMake(t, k, first), mustMake(t, k, second), first, second)
		}
	}
}

// P10.2: where two trees meet: roots beside each other, the one below the other one, in the place of a kid, and both at one level.

func TestWhereTreesMeet(t *testing.T) {
	for _, c := range []struct {
		l, m  []api.Entry
		level int
	}{
		{ones(0, 1), ones(8, 9), 3},            // beside each other
		{ones(0, 3), ones(4), 2},               // a node and an entry, beside it
		{ones(0), ones(4, 7), 2},               // an entry and a node
		{ones(7), ones(8), 3},                  // two entries that touch
		{ones(0, 8), ones(12, 13), 3},          // into the last kid, an entry, which becomes a node
		{ones(0, 8, 9), ones(12, 13), 3},       // into the last kid, a node, beside it
		{ones(0, 8, 12), ones(13, 14), 3},      // into the last kid, and that one's last kid
		{ones(0, 1), ones(2, 8), 3},            // into the first kid
		{ones(0), ones(1, 2, 4, 8), 3},         // into the first kid of the first kid
		{ones(0, 8), ones(9, 12), 3},           // the last kid of the one stands above that of the other one
		{ones(0, 2), ones(3, 8), 3},            // the one is the first kid's of the other one
		{ones(0, 5), ones(6, 7), 2},            // at one address, the one's entry and the other one's node
		{ones(0, 4, 6), ones(7), 2},            // down to the last level
		{ones(0, 1<<63), ones(greatest), 63},   // at the highest level
		{ones(0, 1), ones(1<<63, 1<<63+1), 63}, // far from each other
	} {
		a, b := mustMake(t, 1, c.l), mustMake(t, 1, c.m)
		y, e := Join(a, b)
		if e != api.Fine || y.Root().Level() != c.level {
			t.Error(c.l, c.m, y, e)
		}
		checkJoin(t, a, b, c.l, c.m)
	}
	// Two nodes of one level, that have kids at one address, at none in common, and one of them few, the other one many.
	square := func(addrs ...uint64) []api.Entry {
		var l []api.Entry
		for _, a := range addrs {
			l = append(l, at(a, a>>4&2|a>>2&1, a>>3&2|a>>1&1, a>>2&2|a&1))
		}
		return inOrder(l)
	}
	for _, cut := range []uint64{1, 7, 8, 9, 15, 16, 17, 31, 32, 33, 47, 55, 56, 57, 63} {
		var first, second []uint64
		for a := range uint64(64) {
			if a < cut {
				first = append(first, a)
			} else {
				second = append(second, a)
			}
		}
		l, m := square(first...), square(second...)
		checkJoin(t, mustMake(t, 3, l), mustMake(t, 3, m), l, m)
	}
}

// P10.2: Conflict, if one entry alone isn't ahead, wherever it stands; nothing has changed then.

func TestConflict(t *testing.T) {
	for _, c := range []struct{ l, m []api.Entry }{
		{ones(1), ones(1)},
		{ones(1, 2), ones(2, 3)},
		{ones(2), ones(1)},
		{ones(1, 4), ones(3, 5)},
		{ones(1, 9), ones(2, 3)},
		{ones(5), ones(4, 6)},
		{ones(4, 6), ones(5)},
		{ones(0, greatest), ones(greatest)},
		{ones(0), ones(0, greatest)},
		{ones(greatest), ones(0)},
	} {
		a, b := mustMake(t, 1, c.l), mustMake(t, 1, c.m)
		if y, e := Join(a, b); y != nil || e != api.Conflict {
			t.Error(c.l, c.m, y, e)
		}
		checkMade(t, a, api.Fine, 1, c.l)
		checkMade(t, b, api.Fine, 1, c.m)
	}
	// The same point with another value, and points whose order isn't that of their first coordinates.
	a, b := mustMake(t, 2, []api.Entry{at(1, 0, 8)}), mustMake(t, 2, []api.Entry{at(2, 7, 3)})
	if y, e := Join(a, b); y != nil || e != api.Conflict {
		t.Error(y, e)
	}
	if y, e := Join(b, a); y == nil || e != api.Fine {
		t.Error(y, e)
	}
	a, b = mustMake(t, 1, []api.Entry{at(1, 5)}), mustMake(t, 1, []api.Entry{at(2, 5)})
	if y, e := Join(a, b); y != nil || e != api.Conflict {
		t.Error(y, e)
	}
}

// P10.2: a node is left with one kid, as it was, or as another one; or with none.

func TestOneKidLeft(t *testing.T) {
	for k := 1; k <= 16; k++ {
		for _, level := range []int{1, 30, 63} {
			last := 1<<k - 1
			high := func(c uint64) []uint64 { return all(k, 1<<level|c) }
			l := []api.Entry{at(1, all(k, 0)...), at(2, all(k, 1)...), at(3, high(0)...), at(4, high(1)...)}
			x := mustMake(t, k, l)
			low, top := x.Root().Kid(0), x.Root().Kid(last)
			part := func(p []uint64) (*node.Node, *node.Node) {
				checkPoint(t, x, l, p)
				ahead, others, _ := Part(x, p)
				return ahead.Root(), others.Root()
			}
			same := func(got, want *node.Node) {
				t.Helper()
				if got != want {
					t.Error(k, level, "isn't the very same node:", got.Shape(), want.Shape())
				}
			}
			ahead, others := part(l[0].P)
			same(ahead, nil)
			same(others, x.Root())
			ahead, others = part(l[1].P)
			same(ahead, low.Kid(0))
			same(others.Kid(0), low.Kid(last))
			same(others.Kid(last), top)
			ahead, others = part(l[2].P)
			same(ahead, low)
			same(others, top)
			ahead, others = part(l[3].P)
			same(ahead.Kid(0), low)
			same(ahead.Kid(last), top.Kid(0))
			same(others, top.Kid(last))
			ahead, others = part(all(k, greatest))
			same(ahead, x.Root())
			same(others, nil)
		}
	}
}

// P10.1, P10.2: ahead of all of a tree, and behind all of it, it is the very same tree, at each place where a way ends.

func TestVerySameTree(t *testing.T) {
	l := ones(20, 21, 24, 25, 29)
	x := mustMake(t, 1, l)
	for _, c := range []struct {
		p    uint64
		rank int
	}{{0, 0}, {15, 0}, {16, 0}, {19, 0}, {20, 0}, {30, 5}, {31, 5}, {32, 5}, {greatest, 5}} {
		p := []uint64{c.p}
		checkPoint(t, x, l, p)
		ahead, others, e := Part(x, p)
		if e != api.Fine || c.rank == 0 && (others != x || ahead.Root() != nil) || c.rank == 5 && (ahead != x || others.Root() != nil) {
			t.Error(c.p, ahead.Shapes(), others.Shapes(), e)
		}
		if y, e := Join(ahead, others); y != x || e != api.Fine {
			t.Error(c.p, y, e)
		}
	}
}

// Wrong inputs: what is refused, with the first error that holds.

// checkRefused asks a tree for a point, and nothing but the code may be told.
func checkRefused(t *testing.T, x *tree.Tree, p []uint64, want api.Code) {
	t.Helper()
	if rank, e := Of(x, p); rank != 0 || e != want {
		t.Error("of", p, rank, e)
	}
	if ahead, others, e := Part(x, p); ahead != nil || others != nil || e != want {
		t.Error("part", p, ahead, others, e)
	}
}

func TestWrongPoints(t *testing.T) {
	for k := 1; k <= 16; k++ {
		for _, l := range [][]api.Entry{nil, {at(7, all(k, 0)...)}, {at(7, all(k, 0)...), at(8, all(k, greatest)...)}} {
			x := mustMake(t, k, l)
			for _, other := range []int{0, 1, 2, k - 1, k + 1, 15, 16, 17, 32, 1<<16 + k} {
				if other != k {
					checkRefused(t, x, all(other, 0), api.Dim)
					checkRefused(t, x, all(other, greatest), api.Dim)
				}
			}
			checkRefused(t, x, nil, api.Dim)
			checkAll(t, x, l, [][]uint64{all(k, 0), all(k, 5), all(k, greatest)})
		}
	}
}

func TestNil(t *testing.T) {
	// Nil comes ahead of Dim, and of a number that nothing has.
	for _, p := range [][]uint64{nil, {}, {0}, {0, 1}, all(16, 0), all(17, 0)} {
		checkRefused(t, nil, p, api.Nil)
		checkRefused(t, new(tree.Tree), p, api.Dim)
	}
	for _, n := range []int{math.MinInt, -1, 0, 1, math.MaxInt} {
		if entry, is, e := Nth(nil, n); !sameEntry(entry, api.Entry{}) || is || e != api.Nil {
			t.Error("nth", n, entry, is, e)
		}
		if entry, is, e := Nth(new(tree.Tree), n); !sameEntry(entry, api.Entry{}) || is || e != api.Fine {
			t.Error("nth", n, entry, is, e)
		}
		for _, to := range []int{math.MinInt, 0, n, math.MaxInt} {
			if l, e := Range(nil, n, to); len(l) != 0 || e != api.Nil {
				t.Error("range", n, to, l, e)
			}
			if l, e := Range(new(tree.Tree), n, to); len(l) != 0 || e != api.Fine {
				t.Error("range", n, to, l, e)
			}
		}
	}
}

func TestJoinRefused(t *testing.T) {
	refused := func(a, b *tree.Tree, want api.Code) {
		t.Helper()
		if y, e := Join(a, b); y != nil || e != want {
			t.Error(a.K(), b.K(), y, e)
		}
	}
	refused(nil, nil, api.Nil)
	for k := 1; k <= 16; k++ {
		for _, l := range [][]api.Entry{nil, {at(7, all(k, 9)...)}} {
			x := mustMake(t, k, l)
			refused(nil, x, api.Nil)
			refused(x, nil, api.Nil)
			refused(x, new(tree.Tree), api.Dim)
			refused(new(tree.Tree), x, api.Dim)
			for other := 1; other <= 16; other++ {
				if other == k {
					continue
				}
				// Dim comes ahead of Conflict, and is told of trees without entries, too.
				refused(x, mustMake(t, other, nil), api.Dim)
				refused(x, mustMake(t, other, []api.Entry{at(1, all(other, 0)...)}), api.Dim)
				refused(x, mustMake(t, other, []api.Entry{at(1, all(other, greatest)...)}), api.Dim)
			}
		}
	}
}

// P10.3: what was parted at two points is joined as it was, whichever parts are joined first.

func TestPartedTwice(t *testing.T) {
	for _, k := range []int{1, 2, 3, 7, 16} {
		n := chance(900 + k)
		for _, level := range []int{3, 20, 63} {
			l := n.entries(k, level, 40)
			x := mustMake(t, k, l)
			for range 20 {
				i, j := n.below(len(l)), n.below(len(l))
				i, j = min(i, j), max(i, j)
				first, rest, _ := Part(x, l[i].P)
				middle, last, e := Part(rest, l[j].P)
				checkMade(t, middle, e, k, l[i:j])
				checkShared(t, middle, x)
				front, _ := Join(first, middle)
				y, e := Join(front, last)
				checkMade(t, y, e, k, l)
				back, _ := Join(middle, last)
				y, e = Join(first, back)
				checkMade(t, y, e, k, l)
				checkShared(t, y, first, back)
			}
		}
	}
}

// R4: trees stay as they are, whatever is made of them, and what is made of them can be asked, too.

func TestVersionsStay(t *testing.T) {
	n := chance(11)
	l := n.entries(3, 9, 40)
	first := mustMake(t, 3, l)
	shapes := first.Shapes()
	x, left := first, l
	for range 60 {
		p := n.point(3, 9)
		checkPoint(t, x, left, p)
		rank := plainRank(left, p)
		ahead, others, _ := Part(x, p)
		if 2*rank > len(left) {
			x, left = ahead, left[:rank]
		} else {
			x, left = others, left[rank:]
		}
		if n.below(5) == 0 {
			x, left = first, l
		}
	}
	if !reflect.DeepEqual(shapes, first.Shapes()) {
		t.Error("the tree has become another one")
	}
}

// R4: what is handed in isn't kept or changed, and what is told is the caller's.

func TestListsAreTheCallers(t *testing.T) {
	l := []api.Entry{at(3, 4, 0), at(1, 7, 3), at(2, 0, 8)}
	x := mustMake(t, 2, l)
	p := []uint64{7, 3, 77}
	rank, _ := Of(x, p[:2])
	ahead, others, _ := Part(x, p[:2])
	if rank != 1 || !slices.Equal(p, []uint64{7, 3, 77}) {
		t.Error(rank, p)
	}
	clear(p)
	some, _ := Range(x, 0, 3)
	nth, _, _ := Nth(x, 1)
	for _, entry := range append(some, nth) {
		clear(entry.P)
		_ = append(entry.P, 1)
	}
	clear(some)
	checkAll(t, x, l, [][]uint64{{7, 3}, {0, 9}})
	checkPart(t, x, ahead, api.Fine, l[:1])
	checkPart(t, x, others, api.Fine, l[1:])
}

// P10.1 to P10.3: many entries, with values whose sums go round.

func TestManyEntries(t *testing.T) {
	for _, k := range []int{1, 2, 3, 16} {
		n := chance(300 + k)
		var l []api.Entry
		for i := range 2000 {
			p := make([]uint64, k)
			for j := range p {
				p[j] = uint64(n.below(1 << 12))
			}
			l = append(l, at(greatest-uint64(i), p...))
		}
		l = inOrder(l)
		x := mustMake(t, k, l)
		checkNumbers(t, x, l)
		for _, i := range []int{0, 1, len(l) / 3, len(l) - 1} {
			checkPoint(t, x, l, l[i].P)
		}
		for range 4 {
			p := make([]uint64, k)
			for j := range p {
				p[j] = uint64(n.below(1 << 12))
			}
			checkPoint(t, x, l, p)
		}
	}
}
