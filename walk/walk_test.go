package walk

import (
	"math"
	"reflect"
	"slices"
	"testing"

	"pantile/api"
	"pantile/node"
	"pantile/tree"
)

// greatest is the greatest coordinate, and the greatest value.
const greatest = math.MaxUint64

// chance makes numbers that look like chance, and are the same in each run.
type chance uint64

func (n *chance) below(most int) int {
	*n = *n*6364136223846793005 + 1442695040888963407
	return int(uint64(*n)>>33) % most
}

// point is a point whose bits above a level are those of all others.
func (n *chance) point(k, level int) []uint64 {
	p := make([]uint64, k)
	for i := range p {
		p[i] = 0xA5A5A5A5A5A5A5A5
		for range 1 + n.below(2) {
			p[i] ^= 1 << n.below(level+1)
		}
	}
	return p
}

// entries are up to most entries with unlike points, that part at a level, or below, in z-order.
func (n *chance) entries(k, level, most int) []api.Entry {
	var l []api.Entry
	for range most {
		v := uint64(n.below(1<<20)) << n.below(45)
		l = plainPut(l, n.point(k, level), v)
	}
	return l
}

// shuffled are the same entries in another order.
func (n *chance) shuffled(l []api.Entry) []api.Entry {
	l = slices.Clone(l)
	for i := range l {
		j := n.below(i + 1)
		l[i], l[j] = l[j], l[i]
	}
	return l
}

// at is an entry.
func at(v uint64, p ...uint64) api.Entry {
	return api.Entry{P: p, V: v}
}

// Plain readings: bit by bit, and entry by entry.

// plainCmp goes down from the highest level to the first one at which the addresses aren't the same.
func plainCmp(p, q []uint64) int {
	for level := 63; level >= 0; level-- {
		for i, c := range p {
			if a, b := c/(1<<level)%2, q[i]/(1<<level)%2; a != b {
				return int(a) - int(b)
			}
		}
	}
	return 0
}

func plainPut(l []api.Entry, p []uint64, v uint64) []api.Entry {
	l = append(slices.DeleteFunc(slices.Clone(l), func(x api.Entry) bool { return slices.Equal(x.P, p) }), at(v, slices.Clone(p)...))
	slices.SortFunc(l, func(x, y api.Entry) int { return plainCmp(x.P, y.P) })
	return l
}

// plainAhead is how many of the entries are ahead of a point.
func plainAhead(l []api.Entry, p []uint64) int {
	n := 0
	for _, x := range l {
		if plainCmp(x.P, p) < 0 {
			n++
		}
	}
	return n
}

// plainUpTo is how many of the entries aren't behind a point.
func plainUpTo(l []api.Entry, p []uint64) int {
	n := 0
	for _, x := range l {
		if plainCmp(x.P, p) <= 0 {
			n++
		}
	}
	return n
}

// plainBelow are those of the entries that a node has.
func plainBelow(l []api.Entry, n *node.Node) []api.Entry {
	var below []api.Entry
	for _, x := range l {
		same := true
		for i, c := range n.Prefix() {
			same = same && c>>(n.Level()+1) == x.P[i]>>(n.Level()+1)
		}
		if same {
			below = append(below, x)
		}
	}
	return below
}

// plainNth is the entry of a number, and true, or false, if there is none.
func plainNth(l []api.Entry, i int) (api.Entry, bool) {
	if i < 0 || i >= len(l) {
		return api.Entry{}, false
	}
	return l[i], true
}

func sameEntry(x, y api.Entry) bool {
	return x.V == y.V && slices.Equal(x.P, y.P)
}

// nodesOf are all nodes from n down.
func nodesOf(n *node.Node) []*node.Node {
	if n == nil {
		return nil
	}
	list := []*node.Node{n}
	for _, addr := range n.Shape().Places {
		list = append(list, nodesOf(n.Kid(addr))...)
	}
	return list
}

// pointsBeside are points at which to ask: those of the entries, those that are one bit beside them, those beside the nodes' prefixes, and those at the ends.
func pointsBeside(k int, l []api.Entry, nodes []*node.Node) [][]uint64 {
	points := [][]uint64{make([]uint64, k), slices.Repeat([]uint64{greatest}, k), slices.Repeat([]uint64{1 << 63}, k), slices.Repeat([]uint64{1}, k)}
	for i, x := range l {
		points = append(points, x.P)
		for _, level := range []int{0, 1, 2, 31, 62, 63, i % 64} {
			p := slices.Clone(x.P)
			p[(i+level)%k] ^= 1 << level
			points = append(points, p)
		}
	}
	for i, n := range nodes {
		points = append(points, n.Prefix())
		for _, level := range []int{n.Level() - 1, n.Level(), n.Level() + 1} {
			if level >= 0 && level <= 63 {
				p := n.Prefix()
				p[i%k] ^= 1 << level
				points = append(points, p)
			}
		}
	}
	return points
}

func mustNew(t *testing.T, k int) *tree.Tree {
	t.Helper()
	x, e := tree.New(k)
	if e != api.Fine {
		t.Fatal("new", k, e)
	}
	return x
}

func mustPut(t *testing.T, x *tree.Tree, v uint64, p ...uint64) *tree.Tree {
	t.Helper()
	y, e := x.Put(p, v)
	if e != api.Fine {
		t.Fatal("put", p, v, e)
	}
	return y
}

// mustMake puts entries one after the other.
func mustMake(t *testing.T, k int, l []api.Entry) *tree.Tree {
	t.Helper()
	x := mustNew(t, k)
	for _, entry := range l {
		x = mustPut(t, x, entry.V, entry.P...)
	}
	return x
}

func mustLeaf(t *testing.T, v uint64, p ...uint64) *node.Node {
	t.Helper()
	n, e := node.Leaf(p, v)
	if e != api.Fine {
		t.Fatal("leaf", p, v, e)
	}
	return n
}

func mustPair(t *testing.T, a, b *node.Node) *node.Node {
	t.Helper()
	n, e := node.Pair(a, b)
	if e != api.Fine {
		t.Fatal("pair", a.Shape(), b.Shape(), e)
	}
	return n
}

// checkTold: an entry was told, or none, as it must be.
func checkTold(t *testing.T, what string, l []api.Entry, i int, got api.Entry, is bool) {
	t.Helper()
	want, has := plainNth(l, i)
	if is != has || !sameEntry(got, want) || !is && got.P != nil {
		t.Fatal(what, "told", got, is, "not", want, has, "of", l)
	}
}

// checkNode asks a node for all its entries and for the outermost ones.
func checkNode(t *testing.T, n *node.Node, l []api.Entry) {
	t.Helper()
	if got := All(n); !slices.EqualFunc(got, l, sameEntry) {
		t.Fatal(l, "are told as", got)
	}
	first, is := First(n)
	checkTold(t, "first", l, 0, first, is)
	last, is := Last(n)
	checkTold(t, "last", l, len(l)-1, last, is)
}

// checkAsked asks a node for the entries next to a point.
func checkAsked(t *testing.T, n *node.Node, l []api.Entry, p []uint64) {
	t.Helper()
	from, is := From(n, p)
	checkTold(t, "from", l, plainAhead(l, p), from, is)
	upTo, is := UpTo(n, p)
	checkTold(t, "up to", l, plainUpTo(l, p)-1, upTo, is)
}

// checkWalk asks all nodes of a tree, and its cursors, all that can be asked; l are its entries, in z-order.
func checkWalk(t *testing.T, x *tree.Tree, l []api.Entry) {
	t.Helper()
	nodes := nodesOf(x.Root())
	points := pointsBeside(x.K(), l, nodes)
	checkNode(t, x.Root(), l)
	for _, p := range points {
		checkAsked(t, x.Root(), l, p)
		checkSeek(t, x, l, p)
	}
	for i, n := range nodes {
		below := plainBelow(l, n)
		checkNode(t, n, below)
		for j := range points {
			if (i+j)%7 == 0 {
				checkAsked(t, n, below, points[j])
			}
		}
	}
	checkThereAndBack(t, New(x), l)
}

// checkThereAndBack goes from the first entry to the last one and back, and tries twice to go past both ends.
func checkThereAndBack(t *testing.T, c *Cursor, l []api.Entry) {
	t.Helper()
	for range 2 {
		for i := range len(l) + 2 {
			entry, is := c.Next()
			checkTold(t, "next", l, i, entry, is)
		}
		for i := range len(l) + 2 {
			entry, is := c.Back()
			checkTold(t, "back", l, len(l)-1-i, entry, is)
		}
	}
}

// checkSeek seeks a point, from either end, and goes on from there.
func checkSeek(t *testing.T, x *tree.Tree, l []api.Entry, p []uint64) {
	t.Helper()
	c := New(x)
	ahead := plainAhead(l, p)
	mustSeek(t, c, p...)
	entry, is := c.Next()
	checkTold(t, "next", l, ahead, entry, is)
	mustSeek(t, c, p...)
	entry, is = c.Back()
	checkTold(t, "back", l, ahead-1, entry, is)
	mustSeek(t, c, p...)
	for i := ahead; i < min(ahead+3, len(l)); i++ {
		entry, is = c.Next()
		checkTold(t, "next", l, i, entry, is)
	}
	for i := min(ahead+3, len(l)) - 1; i >= ahead-3; i-- {
		entry, is = c.Back()
		checkTold(t, "back", l, i, entry, is)
	}
}

func mustSeek(t *testing.T, c *Cursor, p ...uint64) {
	t.Helper()
	if e := c.Seek(p); e != api.Fine {
		t.Fatal("seek", p, e)
	}
}

// P8.1, P8.2: the chapter's example.

func TestExample(t *testing.T) {
	x := mustMake(t, 2, []api.Entry{at(1, 7, 3), at(2, 0, 8), at(3, 4, 0)})
	l := []api.Entry{at(3, 4, 0), at(1, 7, 3), at(2, 0, 8)}
	checkWalk(t, x, l)
	for _, c := range []struct {
		p          []uint64
		from, upTo int
	}{
		{[]uint64{0, 0}, 0, -1},
		{[]uint64{3, 7}, 0, -1},
		{[]uint64{4, 0}, 0, 0},
		{[]uint64{4, 1}, 1, 0},
		{[]uint64{7, 2}, 1, 0},
		{[]uint64{7, 3}, 1, 1},
		{[]uint64{4, 4}, 2, 1},
		{[]uint64{0, 8}, 2, 2},
		{[]uint64{0, 9}, 3, 2},
		{[]uint64{8, 0}, 3, 2},
		{[]uint64{greatest, greatest}, 3, 2},
	} {
		from, is := From(x.Root(), c.p)
		checkTold(t, "from", l, c.from, from, is)
		upTo, is := UpTo(x.Root(), c.p)
		checkTold(t, "up to", l, c.upTo, upTo, is)
		checkSeek(t, x, l, c.p)
	}
}

// P8.1, P8.2: all lists of a few points.

func TestFewPoints(t *testing.T) {
	for _, from := range [][]api.Entry{
		{at(0, 0), at(1, 1), at(7, 2), at(9, 6), at(2, 1<<63), at(greatest, greatest)},
		{at(1, 0, 0), at(2, 0, 1), at(3, 1, 0), at(4, 1, 1), at(5, 2, 0), at(6, greatest, greatest)},
		{at(2, 0, 0, 0), at(1, 0, 0, 1<<63), at(2, 5, 4, 5), at(9, 5, 5, 5), at(0, 5, 5, 6)},
	} {
		for set := range 1 << len(from) {
			var l []api.Entry
			for i, x := range from {
				if set>>i&1 == 1 {
					l = plainPut(l, x.P, x.V)
				}
			}
			x := mustMake(t, len(from[0].P), l)
			checkWalk(t, x, l)
			for _, entry := range from {
				checkAsked(t, x.Root(), l, entry.P)
				checkSeek(t, x, l, entry.P)
			}
		}
	}
}

// P8.1, P8.2: any entries of each K, that part at levels at their ends and between.

func TestAnyEntries(t *testing.T) {
	for k := 1; k <= 16; k++ {
		n := chance(k)
		for _, level := range []int{0, 1, 5, 31, 62, 63} {
			l := n.entries(k, level, 1+n.below(16))
			checkWalk(t, mustMake(t, k, n.shuffled(l)), l)
		}
	}
}

// P8.1: points beside the prefix of each node on a long way, and with more ahead of it or behind it.

func TestLongWay(t *testing.T) {
	for _, k := range []int{1, 2, 5, 16} {
		for _, ground := range []uint64{0, greatest, 0x5555555555555555} {
			p := slices.Repeat([]uint64{ground}, k)
			l := []api.Entry{at(99, p...)}
			for level := range 64 {
				q := slices.Clone(p)
				q[level%k] ^= 1 << level
				l = plainPut(l, q, uint64(level))
			}
			x := mustMake(t, k, l)
			if x.Root().Level() != 63 || len(nodesOf(x.Root())) != 129 {
				t.Fatal(k, ground, x.Root().Level())
			}
			checkNode(t, x.Root(), l)
			checkThereAndBack(t, New(x), l)
			for level := range 64 {
				q := slices.Clone(p)
				q[level%k] ^= 1 << level
				q[(level+1)%k] ^= 1
				checkAsked(t, x.Root(), l, q)
				checkSeek(t, x, l, q)
			}
		}
	}
}

// P8.1, P8.2: nodes with kids at many addresses, or at the outermost ones alone, at both end levels.

func TestManyKids(t *testing.T) {
	for k := 1; k <= 7; k++ {
		for _, level := range []int{0, 63} {
			var l []api.Entry
			for addr := range 1 << k {
				if k < 7 || addr%3 == 0 {
					l = append(l, at(uint64(addr), pointAt(k, level, addr)...))
				}
			}
			x := mustMake(t, k, l)
			checkNode(t, x.Root(), l)
			checkThereAndBack(t, New(x), l)
			for addr := range 1 << k {
				p := pointAt(k, level, addr)
				checkAsked(t, x.Root(), l, p)
				checkSeek(t, x, l, p)
			}
		}
	}
}

func TestOutermostKids(t *testing.T) {
	for k := 1; k <= 16; k++ {
		for _, level := range []int{0, 1, 63} {
			last := 1<<k - 1
			l := []api.Entry{at(5, pointAt(k, level, 0)...), at(6, pointAt(k, level, last)...)}
			checkWalk(t, mustMake(t, k, l), l)
			for _, addr := range []int{1, last / 2, last - 1} {
				l := plainPut(l, pointAt(k, level, addr), 7)
				checkWalk(t, mustMake(t, k, l), l)
			}
		}
	}
}

// pointAt has an address at a level, and no other bits.
func pointAt(k, level, addr int) []uint64 {
	p := make([]uint64, k)
	for i := range p {
		p[i] = uint64(addr>>(k-1-i)&1) << level
	}
	return p
}

// P8.1: nodes that aren't a tree's root.

func TestNodes(t *testing.T) {
	a, b, c := mustLeaf(t, 1, 4, 0), mustLeaf(t, 2, 7, 3), mustLeaf(t, 3, 0, 8)
	inner := mustPair(t, b, a)
	for _, x := range []struct {
		n *node.Node
		l []api.Entry
	}{
		{a, []api.Entry{at(1, 4, 0)}},
		{inner, []api.Entry{at(1, 4, 0), at(2, 7, 3)}},
		{mustPair(t, c, a), []api.Entry{at(1, 4, 0), at(3, 0, 8)}},
		{mustPair(t, c, inner), []api.Entry{at(1, 4, 0), at(2, 7, 3), at(3, 0, 8)}},
	} {
		checkNode(t, x.n, x.l)
		for _, p := range [][]uint64{{0, 0}, {4, 0}, {4, 1}, {6, 2}, {7, 3}, {7, 4}, {0, 8}, {1, 8}, {8, 8}, {greatest, 0}} {
			checkAsked(t, x.n, x.l, p)
		}
		y, e := tree.Of(2, x.n)
		if e != api.Fine {
			t.Fatal(e)
		}
		checkWalk(t, y, x.l)
	}
}

// P8.1: nodes without entries: nil ones, and one that no call made.

func TestNoEntries(t *testing.T) {
	for _, n := range []*node.Node{nil, new(node.Node)} {
		checkNode(t, n, nil)
		for _, p := range [][]uint64{nil, {}, {0}, {1, 2}, make([]uint64, 16), make([]uint64, 17)} {
			checkNone(t, n, p)
		}
	}
}

// checkNone: a node has no entries from a point on, or up to it.
func checkNone(t *testing.T, n *node.Node, p []uint64) {
	t.Helper()
	if entry, is := From(n, p); is || entry.P != nil || entry.V != 0 {
		t.Error("from", len(p), entry, is)
	}
	if entry, is := UpTo(n, p); is || entry.P != nil || entry.V != 0 {
		t.Error("up to", len(p), entry, is)
	}
}

// P8.1: points of another number of coordinates, also where the coordinates that are there are those of an entry.

func TestPointsOfAnotherK(t *testing.T) {
	for k := 1; k <= 16; k++ {
		leaf := mustLeaf(t, 7, make([]uint64, k)...)
		pair := mustPair(t, leaf, mustLeaf(t, 8, slices.Repeat([]uint64{greatest}, k)...))
		for _, n := range []*node.Node{leaf, pair} {
			for _, other := range []int{0, 1, 2, 3, k - 1, k + 1, 15, 16, 17, 32, 1<<16 + k} {
				if other != k {
					checkNone(t, n, make([]uint64, other))
					checkNone(t, n, slices.Repeat([]uint64{greatest}, other))
				}
			}
			checkNone(t, n, nil)
		}
	}
}

// P8.2: cursors of trees without entries, and with one.

func TestCursorOfNoneAndOne(t *testing.T) {
	for k := 1; k <= 16; k++ {
		x := mustNew(t, k)
		checkWalk(t, x, nil)
		for _, c := range []uint64{0, 5, 1 << 63, greatest} {
			p := slices.Repeat([]uint64{c}, k)
			checkWalk(t, mustPut(t, x, c, p...), []api.Entry{at(c, p...)})
		}
	}
}

// P8.2: any steps, one after the other, beside a plain reading of where the cursor stands.

func TestAnySteps(t *testing.T) {
	for k := 1; k <= 16; k++ {
		n := chance(100 + k)
		for _, level := range []int{0, 4, 63} {
			l := n.entries(k, level, n.below(25))
			x := mustMake(t, k, n.shuffled(l))
			points := pointsBeside(k, l, nodesOf(x.Root()))
			checkAnySteps(t, &n, x, l, points)
		}
	}
}

func checkAnySteps(t *testing.T, n *chance, x *tree.Tree, l []api.Entry, points [][]uint64) {
	t.Helper()
	c, stands := New(x), 0
	for range 300 {
		switch n.below(9) {
		case 0:
			p := points[n.below(len(points))]
			mustSeek(t, c, p...)
			stands = plainAhead(l, p)
		case 1:
			if e := c.Seek(make([]uint64, x.K()+1)); e != api.Dim {
				t.Fatal("seek", x.K(), e)
			}
		case 2, 3, 4, 5:
			entry, is := c.Next()
			checkTold(t, "next", l, stands, entry, is)
			stands = min(stands+1, len(l))
		default:
			entry, is := c.Back()
			checkTold(t, "back", l, stands-1, entry, is)
			stands = max(stands-1, 0)
		}
	}
}

// P8.2: Next and Back in turn tell the same entry again and again.

func TestTurns(t *testing.T) {
	n := chance(7)
	l := n.entries(3, 9, 20)
	x := mustMake(t, 3, l)
	for i := range l {
		c := New(x)
		for range i {
			c.Next()
		}
		for range 3 {
			entry, is := c.Next()
			checkTold(t, "next", l, i, entry, is)
			entry, is = c.Back()
			checkTold(t, "back", l, i, entry, is)
		}
		entry, is := c.Back()
		checkTold(t, "back", l, i-1, entry, is)
	}
}

// P8.2: Seek from wherever the cursor stands.

func TestSeekFromAnywhere(t *testing.T) {
	n := chance(8)
	l := n.entries(2, 9, 20)
	x := mustMake(t, 2, l)
	for from := range len(l) + 2 {
		for i, entry := range l {
			c := New(x)
			for range from {
				c.Next()
			}
			mustSeek(t, c, entry.P...)
			got, is := c.Next()
			checkTold(t, "next", l, i, got, is)
		}
	}
}

// P8.2: Seek that is refused leaves the cursor where it was.

func TestSeekRefused(t *testing.T) {
	for k := 1; k <= 16; k++ {
		n := chance(200 + k)
		for _, most := range []int{0, 1, 6} {
			l := n.entries(k, 4, most)
			c := New(mustMake(t, k, l))
			for i := range len(l) + 1 {
				checkRefused(t, c, k)
				entry, is := c.Next()
				checkTold(t, "next", l, i, entry, is)
			}
			for i := range len(l) + 1 {
				checkRefused(t, c, k)
				entry, is := c.Back()
				checkTold(t, "back", l, len(l)-1-i, entry, is)
			}
		}
	}
}

// checkRefused seeks points of other numbers of coordinates than K.
func checkRefused(t *testing.T, c *Cursor, k int) {
	t.Helper()
	for _, other := range []int{0, 1, 2, k - 1, k + 1, 16, 17, 32, 1<<16 + k} {
		if other == k {
			continue
		}
		if e := c.Seek(slices.Repeat([]uint64{0xA5A5A5A5A5A5A5A5}, other)); e != api.Dim {
			t.Fatal("seek", k, other, e)
		}
	}
	if e := c.Seek(nil); e != api.Dim {
		t.Fatal("seek", k, e)
	}
}

// P8.2: nil cursors, that of a nil tree, and cursors that are of no tree.

func TestNil(t *testing.T) {
	if c := New(nil); c != nil {
		t.Fatal("a cursor of a nil tree")
	}
	for _, p := range [][]uint64{nil, {}, {1}, {1, 2}, make([]uint64, 16), make([]uint64, 17)} {
		for _, c := range []*Cursor{nil, New(nil)} { // Nil comes ahead of Dim
			if e := c.Seek(p); e != api.Nil {
				t.Error(len(p), e)
			}
			checkThereAndBack(t, c, nil)
		}
		for _, c := range []*Cursor{new(Cursor), New(new(tree.Tree))} {
			if e := c.Seek(p); e != api.Dim {
				t.Error(len(p), e)
			}
			checkThereAndBack(t, c, nil)
		}
	}
}

// P8.2: cursors of one tree are apart from each other, and the tree stays as it is.

func TestCursorsApart(t *testing.T) {
	n := chance(9)
	l := n.entries(2, 9, 20)
	x := mustMake(t, 2, l)
	shapes := x.Shapes()
	a, b := New(x), New(x)
	for i := range l {
		entry, is := a.Next()
		checkTold(t, "next", l, i, entry, is)
		if i%2 == 0 {
			entry, is = b.Next()
			checkTold(t, "next", l, i/2, entry, is)
		}
		mustPut(t, x, 1, n.point(2, 9)...)
	}
	mustSeek(t, a, 0, 0)
	entry, is := b.Back()
	checkTold(t, "back", l, (len(l)-1)/2, entry, is)
	if !reflect.DeepEqual(shapes, x.Shapes()) {
		t.Error("the tree has become another one")
	}
}

// P8.1, P8.2: what is handed in isn't kept or changed, and what is told is the caller's.

func TestListsAreTheCallers(t *testing.T) {
	l := []api.Entry{at(3, 4, 0), at(1, 7, 3), at(2, 0, 8)}
	x := mustMake(t, 2, l)
	room := []uint64{7, 3, 11}
	p := room[:2]
	c := New(x)
	mustSeek(t, c, p...)
	from, _ := From(x.Root(), p)
	upTo, _ := UpTo(x.Root(), p)
	if !slices.Equal(room, []uint64{7, 3, 11}) {
		t.Error(room)
	}
	first, _ := First(x.Root())
	last, _ := Last(x.Root())
	all := All(x.Root())
	next, _ := c.Next()
	back, _ := c.Back()
	for _, entry := range append(all, from, upTo, first, last, next, back) {
		clear(entry.P)
		_ = append(entry.P, 1)
	}
	clear(all)
	clear(room)
	entry, is := c.Next()
	checkTold(t, "next", l, 1, entry, is)
	checkWalk(t, x, l)
}

// P8.1, P8.2: many entries.

func TestManyEntries(t *testing.T) {
	for _, k := range []int{1, 2, 16} {
		n := chance(300 + k)
		x := mustNew(t, k)
		var points [][]uint64
		for i := range 3000 {
			p := make([]uint64, k)
			for j := range p {
				p[j] = uint64(n.below(1 << 12))
			}
			if _, is, _ := x.Get(p); !is {
				points = append(points, p)
			}
			x = mustPut(t, x, uint64(i), p...)
		}
		slices.SortFunc(points, plainCmp)
		got := All(x.Root())
		if !slices.EqualFunc(got, points, func(x api.Entry, p []uint64) bool { return slices.Equal(x.P, p) }) {
			t.Fatal(k, len(got), len(points))
		}
		for _, entry := range got {
			if v, is, e := x.Get(entry.P); v != entry.V || !is || e != api.Fine {
				t.Fatal(k, entry, v, is, e)
			}
		}
		checkThereAndBack(t, New(x), got)
	}
}
