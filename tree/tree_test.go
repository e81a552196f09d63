package tree

import (
	"math"
	"reflect"
	"slices"
	"testing"

	"pantile/api"
	"pantile/node"
)

// greatest is the greatest coordinate, and the greatest value.
const greatest = math.MaxUint64

// steps makes numbers that look like chance, and are the same in each run.
type steps uint64

func (n *steps) below(most int) int {
	*n = *n*6364136223846793005 + 1442695040888963407
	return int(uint64(*n)>>33) % most
}

// chancePoint is a point whose bits from a level up are those of all others.
func chancePoint(chance *steps, k, level int) []uint64 {
	p := make([]uint64, k)
	for i := range p {
		p[i] = 0xA5A5A5A5A5A5A5A5
		for range 1 + chance.below(2) {
			p[i] ^= 1 << chance.below(level+1)
		}
	}
	return p
}

// chanceEntries are up to n entries with unlike points, that part at a level, or below.
func chanceEntries(chance *steps, k, level, n int) []api.Entry {
	var l []api.Entry
	for range n {
		v := uint64(chance.below(1<<20)) << chance.below(45)
		l = plainPut(l, chancePoint(chance, k, level), v)
	}
	return l
}

// shuffled are the same entries in another order.
func shuffled(chance *steps, l []api.Entry) []api.Entry {
	l = slices.Clone(l)
	for i := range l {
		j := chance.below(i + 1)
		l[i], l[j] = l[j], l[i]
	}
	return l
}

// at is an entry.
func at(v uint64, p ...uint64) api.Entry {
	return api.Entry{P: p, V: v}
}

// Plain readings: bit by bit, and entry by entry.

func plainAddr(p []uint64, level int) int {
	addr := 0
	for _, c := range p {
		addr = 2*addr + int(c/(1<<level)%2)
	}
	return addr
}

func plainCut(p []uint64, level int) []uint64 {
	q := slices.Clone(p)
	for i, c := range p {
		for low := 0; low <= level; low++ {
			q[i] -= c / (1 << low) % 2 * (1 << low)
		}
	}
	return q
}

// plainAbove tells whether two points are the same above a level.
func plainAbove(p, q []uint64, level int) bool {
	for i, c := range p {
		if c>>(level+1) != q[i]>>(level+1) {
			return false
		}
	}
	return true
}

// plainLevel is the highest level at which not all entries have one address, -1 if there is none.
func plainLevel(l []api.Entry) int {
	for level := 63; level >= 0; level-- {
		for _, x := range l {
			if plainAddr(x.P, level) != plainAddr(l[0].P, level) {
				return level
			}
		}
	}
	return -1
}

func plainFind(l []api.Entry, p []uint64) int {
	return slices.IndexFunc(l, func(x api.Entry) bool { return slices.Equal(x.P, p) })
}

func plainPut(l []api.Entry, p []uint64, v uint64) []api.Entry {
	return append(plainDel(l, p), at(v, slices.Clone(p)...))
}

func plainDel(l []api.Entry, p []uint64) []api.Entry {
	return slices.DeleteFunc(slices.Clone(l), func(x api.Entry) bool { return slices.Equal(x.P, p) })
}

// plainKids are the entries of each kid, by its address.
func plainKids(l []api.Entry, level int) ([]int, map[int][]api.Entry) {
	var places []int
	kids := map[int][]api.Entry{}
	for _, x := range l {
		addr := plainAddr(x.P, level)
		if kids[addr] == nil {
			places = append(places, addr)
		}
		kids[addr] = append(kids[addr], x)
	}
	slices.Sort(places)
	return places, kids
}

// plainShapes are those that the chapter's words give entries in any order.
func plainShapes(l []api.Entry) []api.Shape {
	if len(l) == 0 {
		return nil
	}
	level := plainLevel(l)
	if level < 0 {
		return []api.Shape{{Level: -1, Prefix: l[0].P, V: l[0].V}}
	}
	k := len(l[0].P)
	places, kids := plainKids(l, level)
	list := []api.Shape{{Level: level, Prefix: plainCut(l[0].P, level), Places: places, Dense: k <= 6 && 2*len(places) > 1<<k}}
	for _, addr := range places {
		list = append(list, plainShapes(kids[addr])...)
	}
	return list
}

func sameShape(a, b api.Shape) bool {
	return a.Level == b.Level && slices.Equal(a.Prefix, b.Prefix) && slices.Equal(a.Places, b.Places) && a.Dense == b.Dense && a.V == b.V
}

// nodesOf are all nodes from n down, each ahead of its kids.
func nodesOf(n *node.Node) []*node.Node {
	if n == nil {
		return nil
	}
	list := []*node.Node{n}
	for _, addr := range n.Shape().Places {
		list = append(list, nodesOf(n.Kid(addr))...)
	}
	return list
}

// pathIn is which ones of a tree's nodes cover a point; as each comes ahead of its kids, they are from the root down.
func pathIn(nodes []*node.Node, p []uint64) []*node.Node {
	var path []*node.Node
	for _, n := range nodes {
		if plainAbove(p, n.Prefix(), n.Level()) {
			path = append(path, n)
		}
	}
	return path
}

func mustNew(t *testing.T, k int) *Tree {
	t.Helper()
	x, e := New(k)
	if e != api.Fine || x == nil {
		t.Fatal("new", k, e)
	}
	return x
}

func mustPut(t *testing.T, x *Tree, v uint64, p ...uint64) *Tree {
	t.Helper()
	y, e := x.Put(p, v)
	if e != api.Fine || y == nil {
		t.Fatal("put", p, v, e)
	}
	return y
}

func mustDel(t *testing.T, x *Tree, p ...uint64) *Tree {
	t.Helper()
	y, e := x.Del(p)
	if e != api.Fine || y == nil {
		t.Fatal("del", p, e)
	}
	return y
}

func mustPath(t *testing.T, x *Tree, p ...uint64) []*node.Node {
	t.Helper()
	path, e := x.Path(p)
	if e != api.Fine {
		t.Fatal("path", p, e)
	}
	return path
}

// mustMake puts entries one after the other.
func mustMake(t *testing.T, k int, l []api.Entry) *Tree {
	t.Helper()
	x := mustNew(t, k)
	for _, entry := range l {
		x = mustPut(t, x, entry.V, entry.P...)
	}
	return x
}

func mustLeaf(t *testing.T, v uint64, p ...uint64) *node.Node {
	t.Helper()
	n, e := node.Leaf(p, v)
	if e != api.Fine {
		t.Fatal("leaf", p, v, e)
	}
	return n
}

func mustPair(t *testing.T, a, b *node.Node) *node.Node {
	t.Helper()
	n, e := node.Pair(a, b)
	if e != api.Fine {
		t.Fatal("pair", a.Shape(), b.Shape(), e)
	}
	return n
}

// checkTree asks a tree all that can be asked; l are its entries, in any order.
func checkTree(t *testing.T, x *Tree, k int, l []api.Entry) {
	t.Helper()
	if x.K() != k || x.Len() != len(l) || (x.Root() == nil) != (len(l) == 0) {
		t.Fatal(k, l, "told", x.K(), x.Len(), x.Root())
	}
	want, got := plainShapes(l), x.Shapes()
	if !slices.EqualFunc(want, got, sameShape) {
		t.Fatal(k, l, "have the shapes", got, "not", want)
	}
	nodes := nodesOf(x.Root())
	if len(nodes) != len(want) {
		t.Fatal(k, l, "have", len(nodes), "nodes, not", len(want))
	}
	for i, n := range nodes {
		if !sameShape(n.Shape(), want[i]) {
			t.Fatal(k, l, "have a node", n.Shape(), "not", want[i])
		}
	}
	for _, entry := range l {
		checkPoint(t, x, nodes, l, entry.P)
		for i := range entry.P {
			for _, level := range []int{0, 1, 31, 63} {
				p := slices.Clone(entry.P)
				p[i] ^= 1 << level
				checkPoint(t, x, nodes, l, p)
			}
		}
	}
	for _, c := range []uint64{0, 1, 1 << 63, greatest} {
		checkPoint(t, x, nodes, l, slices.Repeat([]uint64{c}, k))
	}
}

// checkPoint asks for a point's value and path, be it there or not.
func checkPoint(t *testing.T, x *Tree, nodes []*node.Node, l []api.Entry, p []uint64) {
	t.Helper()
	var want api.Entry
	i := plainFind(l, p)
	if i >= 0 {
		want = l[i]
	}
	if v, is, e := x.Get(p); v != want.V || is != (i >= 0) || e != api.Fine {
		t.Fatal(l, p, "has", v, is, e)
	}
	if path := mustPath(t, x, p...); !slices.Equal(path, pathIn(nodes, p)) {
		t.Fatal(l, p, "has another path", path)
	}
}

// P7.1: trees without entries.

func TestNew(t *testing.T) {
	for k := 1; k <= 16; k++ {
		checkTree(t, mustNew(t, k), k, nil)
	}
}

func TestKsThatCantBe(t *testing.T) {
	leaf := mustLeaf(t, 1, 4, 0)
	for _, k := range []int{math.MinInt, -1 << 32, -16, -2, -1, 0, 17, 18, 32, 1 << 32, 1<<32 + 2, math.MaxInt} {
		if x, e := New(k); x != nil || e != api.Arg {
			t.Error("new", k, e)
		}
		for _, root := range []*node.Node{nil, leaf, new(node.Node)} { // Arg comes ahead of Dim
			if x, e := Of(k, root); x != nil || e != api.Arg {
				t.Error("of", k, e)
			}
		}
	}
}

// P7.1: trees with a root.

func TestOf(t *testing.T) {
	a, b := mustLeaf(t, 10, 4, 0), mustLeaf(t, 20, 7, 3)
	pair := mustPair(t, a, b)
	for _, c := range []struct {
		root *node.Node
		l    []api.Entry
	}{
		{nil, nil},
		{a, []api.Entry{at(10, 4, 0)}},
		{pair, []api.Entry{at(20, 7, 3), at(10, 4, 0)}},
	} {
		x, e := Of(2, c.root)
		if e != api.Fine || x == nil || x.Root() != c.root {
			t.Fatal(c, x, e)
		}
		checkTree(t, x, 2, c.l)
		checkTree(t, mustPut(t, x, 5, 5, 2), 2, plainPut(c.l, []uint64{5, 2}, 5))
		checkTree(t, mustDel(t, mustPut(t, x, 6, 7, 3), 7, 3), 2, plainDel(c.l, []uint64{7, 3}))
		checkTree(t, x, 2, c.l)
	}
}

func TestOfRootOfAnotherK(t *testing.T) {
	for k := 1; k <= 16; k++ {
		for other := 1; other <= 16; other++ {
			p, q := make([]uint64, other), make([]uint64, other)
			q[0] = 1
			leaf := mustLeaf(t, 1, p...)
			for _, root := range []*node.Node{leaf, mustPair(t, leaf, mustLeaf(t, 2, q...))} {
				x, e := Of(k, root)
				if k == other && (e != api.Fine || x.Root() != root) || k != other && (x != nil || e != api.Dim) {
					t.Error(k, other, x, e)
				}
			}
		}
		if x, e := Of(k, new(node.Node)); x != nil || e != api.Dim { // a node that no call made has no coordinates
			t.Error(k, x, e)
		}
	}
}

// A tree of another tree's root has the very same nodes.
func TestOfRootOfATree(t *testing.T) {
	chance := steps(5)
	l := chanceEntries(&chance, 3, 9, 30)
	x := mustMake(t, 3, l)
	y, e := Of(3, x.Root())
	if e != api.Fine || y.Root() != x.Root() {
		t.Fatal(e)
	}
	checkTree(t, y, 3, l)
}

// P7.1, P7.2: the chapter's example.

func TestExample(t *testing.T) {
	l := []api.Entry{at(3, 4, 0), at(1, 7, 3), at(2, 0, 8)}
	for _, order := range [][]int{{0, 1, 2}, {0, 2, 1}, {1, 0, 2}, {1, 2, 0}, {2, 0, 1}, {2, 1, 0}} {
		x := mustMake(t, 2, []api.Entry{l[order[0]], l[order[1]], l[order[2]]})
		root := x.Root()
		if root.Level() != 3 || !slices.Equal(root.Shape().Places, []int{0, 1}) || root.Kid(0).Level() != 1 || root.Kid(1).Level() != -1 {
			t.Error(order, x.Shapes())
		}
		checkTree(t, x, 2, l)
	}
}

// P7.1, P7.2: all lists of a few points, in all orders, with a point more that comes and goes.

func TestFewPoints(t *testing.T) {
	for _, c := range []struct {
		k    int
		from []api.Entry
	}{
		{1, []api.Entry{at(0, 0), at(7, 1), at(2, 1<<63), at(greatest, greatest), at(1, 6)}},
		{2, []api.Entry{at(1, 0, 0), at(2, 0, 1), at(3, 1, 0), at(4, 1, 1), at(5, 2, 0)}},
		{3, []api.Entry{at(1, 0, 0, 1<<63), at(2, 0, 0, 0), at(2, 5, 5, 5), at(9, 5, 4, 5), at(0, 5, 5, 6)}},
	} {
		for set := range 1 << len(c.from) {
			var l []api.Entry
			for i, x := range c.from {
				if set>>i&1 == 1 {
					l = append(l, x)
				}
			}
			checkAllOrders(t, c.k, l, mustNew(t, c.k), nil)
		}
	}
}

// checkAllOrders puts all that is left in each order; done is what x has.
func checkAllOrders(t *testing.T, k int, left []api.Entry, x *Tree, done []api.Entry) {
	t.Helper()
	if len(left) == 0 {
		checkTree(t, x, k, done)
		for _, entry := range done {
			checkTree(t, mustDel(t, x, entry.P...), k, plainDel(done, entry.P))
		}
	}
	for i, entry := range left {
		rest := slices.Delete(slices.Clone(left), i, i+1)
		checkAllOrders(t, k, rest, mustPut(t, x, entry.V, entry.P...), append(slices.Clone(done), entry))
	}
}

// P7.1, P7.2: any entries of each K, that part at levels at their ends and between; whatever came first, the nodes are the same.

func TestAnyEntries(t *testing.T) {
	for k := 1; k <= 16; k++ {
		chance := steps(k)
		for _, level := range []int{0, 1, 5, 31, 62, 63} {
			l := chanceEntries(&chance, k, level, 1+chance.below(25))
			x := mustMake(t, k, l)
			checkTree(t, x, k, l)
			for range 3 {
				y := mustMake(t, k, shuffled(&chance, l))
				if !reflect.DeepEqual(x.Root(), y.Root()) {
					t.Fatal(l, "in another order have other nodes")
				}
			}
		}
	}
}

// Points that were put with other values, or taken away again, leave no trace.
func TestDetours(t *testing.T) {
	for k := 1; k <= 16; k++ {
		chance := steps(100 + k)
		for _, level := range []int{0, 3, 63} {
			l := chanceEntries(&chance, k, level, 15)
			x, y := mustMake(t, k, l), mustNew(t, k)
			more := chanceEntries(&chance, k, level, 15)
			for _, entry := range shuffled(&chance, slices.Concat(l, more)) {
				y = mustPut(t, y, entry.V+1, entry.P...)
			}
			for _, entry := range shuffled(&chance, more) {
				if plainFind(l, entry.P) < 0 {
					y = mustDel(t, y, entry.P...)
				}
			}
			for _, entry := range shuffled(&chance, l) {
				y = mustPut(t, y, entry.V, entry.P...)
			}
			checkTree(t, y, k, l)
			if !reflect.DeepEqual(x.Root(), y.Root()) {
				t.Fatal(l, "have other nodes after detours")
			}
		}
	}
}

// P7.2: taken away one after the other, till nothing is left.

func TestDelAll(t *testing.T) {
	for k := 1; k <= 16; k++ {
		chance := steps(200 + k)
		l := chanceEntries(&chance, k, 4, 20)
		x := mustMake(t, k, l)
		for len(l) > 0 {
			p := l[chance.below(len(l))].P
			x, l = mustDel(t, x, p...), plainDel(l, p)
			checkTree(t, x, k, l)
		}
		if x.Root() != nil {
			t.Error(k, x.Root())
		}
		checkTree(t, mustPut(t, x, 7, make([]uint64, k)...), k, []api.Entry{at(7, make([]uint64, k)...)})
	}
}

// P7.2: the same value put again is the very same tree, any other one isn't.

func TestSameValue(t *testing.T) {
	for _, v := range []uint64{0, 1, 1 << 63, greatest} {
		x := mustPut(t, mustNew(t, 1), v, 5)
		if mustPut(t, x, v, 5) != x || mustPut(t, x, v^1, 5) == x || mustPut(t, x, v, 4) == x {
			t.Error(v)
		}
	}
	for k := 1; k <= 16; k++ {
		chance := steps(300 + k)
		l := chanceEntries(&chance, k, 6, 20)
		x := mustMake(t, k, l)
		for _, entry := range l {
			if mustPut(t, x, entry.V, entry.P...) != x {
				t.Fatal(k, entry, "is another tree")
			}
			y := mustPut(t, x, entry.V+1, entry.P...)
			if y == x {
				t.Fatal(k, entry, "is the same tree with another value")
			}
			checkTree(t, y, k, plainPut(l, entry.P, entry.V+1))
		}
		checkTree(t, x, k, l)
	}
}

// A point without a value has none, not the value 0.
func TestPutZero(t *testing.T) {
	x := mustNew(t, 2)
	y := mustPut(t, x, 0, 0, 0)
	if y == x || y.Len() != 1 {
		t.Error(y.Len())
	}
	if v, is, e := y.Get([]uint64{0, 0}); v != 0 || !is || e != api.Fine {
		t.Error(v, is, e)
	}
}

// P7.2: a node of two kids that loses one is the other one, be it an entry or a node, at the root or below.

func TestTheOtherOne(t *testing.T) {
	x := mustMake(t, 2, []api.Entry{at(3, 4, 0), at(1, 7, 3), at(2, 0, 8)})
	inner, far := x.Root().Kid(0), x.Root().Kid(1)
	if y := mustDel(t, x, 0, 8); y.Root() != inner {
		t.Error("the root isn't the node that was below it")
	}
	if y := mustDel(t, x, 7, 3); y.Root().Kid(0) != inner.Kid(0) || y.Root().Kid(1) != far {
		t.Error("below the root isn't the entry that was below it")
	}
	if y := mustDel(t, mustDel(t, x, 7, 3), 4, 0); y.Root() != far {
		t.Error("the root isn't the entry that was below it")
	}
	y := mustPut(t, mustPut(t, x, 5, 5, 2), 6, 12, 0)
	z := mustDel(t, mustDel(t, y, 12, 0), 5, 2)
	if !reflect.DeepEqual(z.Root(), x.Root()) || z.Root().Kid(1) != far || z.Root().Kid(0).Kid(3) != inner.Kid(3) {
		t.Error("there and back the nodes are others")
	}
}

// P7.2, P7.3: all nodes that needn't be others are the very same ones, and as few are made as are promised.

func TestNodesInCommon(t *testing.T) {
	for k := 1; k <= 16; k++ {
		chance := steps(400 + k)
		for _, level := range []int{1, 8, 63} {
			l := chanceEntries(&chance, k, level, 20)
			x := mustMake(t, k, l)
			for range 40 {
				p := chancePoint(&chance, k, level)
				if len(l) > 0 && chance.below(2) == 0 {
					p = l[chance.below(len(l))].P
				}
				x, l = changeAt(t, &chance, x, l, p)
			}
			checkTree(t, x, k, l)
		}
	}
}

// changeAt puts something at a point, or takes it away, and looks which nodes have become others.
func changeAt(t *testing.T, chance *steps, x *Tree, l []api.Entry, p []uint64) (*Tree, []api.Entry) {
	t.Helper()
	ahead := mustPath(t, x, p...)
	var y *Tree
	var most int
	if plainFind(l, p) >= 0 && chance.below(3) > 0 {
		y, l = mustDel(t, x, p...), plainDel(l, p)
		most = len(ahead) - 1
	} else {
		v := uint64(chance.below(5))
		y, l = mustPut(t, x, v, p...), plainPut(l, p, v)
		most = len(mustPath(t, y, p...))
	}
	old, made := map[*node.Node]bool{}, 0
	for _, n := range nodesOf(x.Root()) {
		old[n] = true
	}
	for _, n := range nodesOf(y.Root()) {
		if old[n] {
			continue
		}
		made++
		if !n.Covers(p) {
			t.Fatal(p, "another node that isn't on the path", n.Shape())
		}
	}
	if made > most {
		t.Fatal(p, made, "other nodes, not at most", most)
	}
	checkBeside(t, ahead, y, p)
	return y, l
}

// checkBeside: of the nodes on the path that are there still, all kids but that on the path are the very same ones.
func checkBeside(t *testing.T, ahead []*node.Node, y *Tree, p []uint64) {
	t.Helper()
	for _, n := range mustPath(t, y, p...) {
		i := slices.IndexFunc(ahead, func(old *node.Node) bool { return old.Level() == n.Level() })
		if i < 0 || n.Level() < 0 {
			continue
		}
		on := plainAddr(p, n.Level())
		for _, addr := range slices.Concat(n.Shape().Places, ahead[i].Shape().Places) {
			if addr != on && n.Kid(addr) != ahead[i].Kid(addr) {
				t.Fatal(p, "another kid beside the path", addr, n.Shape())
			}
		}
	}
}

// P7.3: paths of up to 65 nodes.

func TestLongPaths(t *testing.T) {
	for _, k := range []int{1, 2, 5, 16} {
		x := mustNew(t, k)
		for level := range 64 {
			p := make([]uint64, k)
			p[level%k] = 1 << level
			x = mustPut(t, x, uint64(level), p...)
		}
		none := make([]uint64, k)
		if path := mustPath(t, x, none...); len(path) != 63 {
			t.Error(k, len(path))
		}
		x = mustPut(t, x, 9, none...)
		path := mustPath(t, x, none...)
		if len(path) != 65 || path[0] != x.Root() {
			t.Fatal(k, len(path))
		}
		for i, n := range path {
			if n.Level() != 63-i {
				t.Error(k, i, n.Level())
			}
		}
		if got := x.Shapes(); len(got) != 129 || x.Len() != 65 {
			t.Error(k, len(got), x.Len())
		}
		y := mustPut(t, x, 10, none...)
		for i, n := range mustPath(t, y, none...) {
			if n == path[i] {
				t.Error(k, i, "is on the path, and the same")
			}
		}
		if z := mustDel(t, y, none...); len(nodesOf(z.Root())) != 127 || len(mustPath(t, z, none...)) != 63 {
			t.Error(k, len(nodesOf(z.Root())))
		}
	}
}

// P7.2: the path of a point that has no value ends where no kid is, or one that doesn't cover it.

func TestPath(t *testing.T) {
	x := mustMake(t, 2, []api.Entry{at(3, 4, 0), at(1, 7, 3), at(2, 0, 8)})
	root := x.Root()
	inner, far := root.Kid(0), root.Kid(1)
	for _, c := range []struct {
		p    []uint64
		want []*node.Node
	}{
		{[]uint64{4, 0}, []*node.Node{root, inner, inner.Kid(0)}},
		{[]uint64{7, 3}, []*node.Node{root, inner, inner.Kid(3)}},
		{[]uint64{7, 2}, []*node.Node{root, inner}},
		{[]uint64{4, 2}, []*node.Node{root, inner}},
		{[]uint64{0, 0}, []*node.Node{root}},
		{[]uint64{0, 8}, []*node.Node{root, far}},
		{[]uint64{0, 9}, []*node.Node{root}},
		{[]uint64{15, 15}, []*node.Node{root}},
		{[]uint64{16, 0}, nil},
		{[]uint64{greatest, greatest}, nil},
	} {
		if path := mustPath(t, x, c.p...); !slices.Equal(path, c.want) {
			t.Error(c.p, path)
		}
	}
	if path := mustPath(t, mustNew(t, 2), 0, 0); len(path) != 0 {
		t.Error(path)
	}
	one := mustPut(t, mustNew(t, 1), 0, 8)
	if path := mustPath(t, one, 8); !slices.Equal(path, []*node.Node{one.Root()}) {
		t.Error(path)
	}
	if path := mustPath(t, one, 9); len(path) != 0 {
		t.Error(path)
	}
}

// P7.2: shapes of nodes with many kids, sparse and dense ones, at the levels at their ends.

func TestShapes(t *testing.T) {
	for k := 1; k <= 7; k++ {
		for _, level := range []int{0, 63} {
			var l []api.Entry
			for i := range 1 << k {
				addr := (5*i + 1) % (1 << k) // odd, so that each address comes once
				p := make([]uint64, k)
				for c := range p {
					p[c] = uint64(addr>>(k-1-c)&1) << level
				}
				l = append(l, at(uint64(addr), p...))
			}
			x := mustMake(t, k, l)
			checkTree(t, x, k, l)
			shapes := x.Shapes()
			for addr := range 1 << k {
				if s := shapes[addr+1]; s.V != uint64(addr) || s.Level != -1 {
					t.Fatal(k, level, addr, s)
				}
			}
			checkTree(t, mustDel(t, x, l[0].P...), k, l[1:])
		}
	}
}

func TestManyEntries(t *testing.T) {
	for _, k := range []int{1, 2, 16} {
		chance := steps(500 + k)
		x, values := mustNew(t, k), map[[16]uint64]uint64{}
		for i := range 3000 {
			var at [16]uint64
			for c := range k {
				at[c] = uint64(chance.below(1 << 12))
			}
			values[at] = uint64(i)
			x = mustPut(t, x, uint64(i), at[:k]...)
		}
		if x.Len() != len(values) {
			t.Error(k, x.Len(), len(values))
		}
		for at, v := range values {
			if got, is, e := x.Get(at[:k]); got != v || !is || e != api.Fine {
				t.Fatal(k, at, got, is, e)
			}
			x = mustDel(t, x, at[:k]...)
		}
		checkTree(t, x, k, nil)
	}
}

// P7.2: trees from which others came stay as they were, however many come after.

func TestTreesStay(t *testing.T) {
	type version struct {
		x *Tree
		l []api.Entry
	}
	for _, k := range []int{1, 2, 3, 8, 16} {
		chance := steps(600 + k)
		versions := []version{{mustNew(t, k), nil}}
		for range 120 {
			from := versions[max(0, len(versions)-1-chance.below(5))]
			if len(from.l) > 0 && chance.below(3) == 0 {
				p := from.l[chance.below(len(from.l))].P
				versions = append(versions, version{mustDel(t, from.x, p...), plainDel(from.l, p)})
				continue
			}
			p, v := chancePoint(&chance, k, 3+chance.below(60)), uint64(chance.below(9))
			versions = append(versions, version{mustPut(t, from.x, v, p...), plainPut(from.l, p, v)})
		}
		for _, v := range versions {
			checkTree(t, v.x, k, v.l)
		}
	}
}

// P7.1, P7.2: what is handed in isn't kept or changed, and what is told is the caller's.

func TestListsAreTheCallers(t *testing.T) {
	room := []uint64{4, 0, 9, 11}
	p := room[:3]
	x := mustPut(t, mustPut(t, mustNew(t, 3), 7, p...), 8, 5, 0, 9)
	l := []api.Entry{at(7, 4, 0, 9), at(8, 5, 0, 9)}
	mustDel(t, x, p...)
	mustPath(t, x, p...)
	x.Get(p)
	if !slices.Equal(room, []uint64{4, 0, 9, 11}) {
		t.Error(room)
	}
	clear(room)
	checkTree(t, x, 3, l)
	for range 2 {
		path := mustPath(t, x, 4, 0, 9)
		clear(path)
		_ = append(path, nil)
		for _, s := range x.Shapes() {
			clear(s.Prefix)
			clear(s.Places)
			_, _ = append(s.Prefix, 1), append(s.Places, 1)
		}
		clear(x.Shapes())
	}
	checkTree(t, x, 3, l)
}

// P7.1, P7.2: nil trees.

func TestNil(t *testing.T) {
	var x *Tree
	if x.K() != 0 || x.Len() != 0 || x.Root() != nil || len(x.Shapes()) != 0 {
		t.Error(x.K(), x.Len(), x.Root(), x.Shapes())
	}
	for _, p := range [][]uint64{nil, {}, {1}, {1, 2}, make([]uint64, 16), make([]uint64, 17)} { // Nil comes ahead of Dim
		checkRefused(t, x, p, api.Nil)
	}
}

// checkRefused: each call that takes a point answers a code, and nothing beside it.
func checkRefused(t *testing.T, x *Tree, p []uint64, want api.Code) {
	t.Helper()
	if v, is, e := x.Get(p); v != 0 || is || e != want {
		t.Error("get", len(p), v, is, e, "not", want)
	}
	for _, v := range []uint64{0, 1, greatest} {
		if y, e := x.Put(p, v); y != nil || e != want {
			t.Error("put", len(p), y, e, "not", want)
		}
	}
	if y, e := x.Del(p); y != nil || e != want {
		t.Error("del", len(p), y, e, "not", want)
	}
	if path, e := x.Path(p); len(path) != 0 || e != want {
		t.Error("path", len(p), path, e, "not", want)
	}
}

// A tree that no call made has no coordinates, so that no point is one of it.
func TestNotMade(t *testing.T) {
	x := new(Tree)
	if x.K() != 0 || x.Len() != 0 || x.Root() != nil || len(x.Shapes()) != 0 {
		t.Error(x.K(), x.Len(), x.Root(), x.Shapes())
	}
	for _, p := range [][]uint64{nil, {}, {1}, make([]uint64, 16), make([]uint64, 17)} {
		checkRefused(t, x, p, api.Dim)
	}
}

// P7.1, P7.2: points of another number of coordinates, without entries, with one, with many; they change nothing.

func TestWrongPoints(t *testing.T) {
	for k := 1; k <= 16; k++ {
		chance := steps(700 + k)
		for _, most := range []int{0, 1, 9} {
			l := chanceEntries(&chance, k, 3, most)
			x := mustMake(t, k, l)
			for _, other := range []int{0, 1, 2, 3, k - 1, k + 1, 15, 16, 17, 32, 1<<16 + k} {
				if other != k {
					checkRefused(t, x, make([]uint64, other), api.Dim)
				}
			}
			checkRefused(t, x, nil, api.Dim)
			checkTree(t, x, k, l)
		}
	}
}

// P7.2: None of points that have no value, wherever the way to them ends; None changes nothing.

func TestDelNone(t *testing.T) {
	for k := 1; k <= 16; k++ {
		chance := steps(800 + k)
		for _, most := range []int{0, 1, 2, 12} {
			l := chanceEntries(&chance, k, 5, most)
			x := mustMake(t, k, l)
			for range 30 {
				p := chancePoint(&chance, k, chance.below(64))
				if plainFind(l, p) >= 0 {
					continue
				}
				if y, e := x.Del(p); y != nil || e != api.None {
					t.Fatal(k, l, p, y, e)
				}
			}
			checkTree(t, x, k, l)
		}
	}
	x := mustPut(t, mustNew(t, 1), 0, 5)
	y := mustDel(t, x, 5)
	if z, e := y.Del([]uint64{5}); z != nil || e != api.None {
		t.Error(z, e)
	}
}
