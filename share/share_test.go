package share

import (
	"math"
	"reflect"
	"slices"
	"testing"

	"pantile/api"
	"pantile/node"
	"pantile/tree"
	"pantile/walk"
)

// chance makes numbers that look like chance, and are the same in each run.
type chance uint64

func (n *chance) below(most int) int {
	*n = *n*6364136223846793005 + 1442695040888963407
	return int(uint64(*n)>>33) % most
}

// point is a point whose bits above a level are those of all others.
func (n *chance) point(k, level int) []uint64 {
	p := all(k, 0xA5A5A5A5A5A5A5A5)
	for i := range p {
		for range 1 + n.below(2) {
			p[i] ^= 1 << n.below(level+1)
		}
	}
	return p
}

// tree has up to most entries, that part at a level, or below.
func (n *chance) tree(t *testing.T, k, level, most int) *tree.Tree {
	t.Helper()
	x := mustNew(t, k)
	for range most {
		x = mustPut(t, x, uint64(n.below(3)), n.point(k, level)...)
	}
	return x
}

// changed is another version, so many steps away: some entries are gone, some have another value, some are new.
func (n *chance) changed(t *testing.T, x *tree.Tree, level, steps int) *tree.Tree {
	t.Helper()
	for range steps {
		l := walk.All(x.Root())
		switch {
		case len(l) > 0 && n.below(3) == 0:
			x = mustDel(t, x, l[n.below(len(l))].P...)
		case len(l) > 0 && n.below(2) == 0:
			x = mustPut(t, x, uint64(n.below(3)), l[n.below(len(l))].P...)
		default:
			x = mustPut(t, x, uint64(n.below(3)), n.point(x.K(), level)...)
		}
	}
	return x
}

// all has the same coordinate K times.
func all(k int, c uint64) []uint64 {
	return slices.Repeat([]uint64{c}, k)
}

func mustNew(t *testing.T, k int) *tree.Tree {
	t.Helper()
	x, e := tree.New(k)
	if e != api.Fine || x == nil {
		t.Fatal("new", k, e)
	}
	return x
}

func mustPut(t *testing.T, x *tree.Tree, v uint64, p ...uint64) *tree.Tree {
	t.Helper()
	y, e := x.Put(p, v)
	if e != api.Fine || y == nil {
		t.Fatal("put", p, v, e)
	}
	return y
}

func mustDel(t *testing.T, x *tree.Tree, p ...uint64) *tree.Tree {
	t.Helper()
	y, e := x.Del(p)
	if e != api.Fine || y == nil {
		t.Fatal("del", p, e)
	}
	return y
}

// mustOf is the tree of a node's entries.
func mustOf(t *testing.T, n *node.Node) *tree.Tree {
	t.Helper()
	x, e := tree.Of(n.K(), n)
	if e != api.Fine || x == nil {
		t.Fatal("of", n.Shape(), e)
	}
	return x
}

// mustTree puts points one after the other.
func mustTree(t *testing.T, k int, points ...[]uint64) *tree.Tree {
	t.Helper()
	x := mustNew(t, k)
	for i, p := range points {
		x = mustPut(t, x, uint64(i), p...)
	}
	return x
}

// apart has the same entries, put anew from the last one on, so that no node is in common.
func apart(t *testing.T, x *tree.Tree) *tree.Tree {
	t.Helper()
	y := mustNew(t, x.K())
	for _, entry := range slices.Backward(walk.All(x.Root())) {
		y = mustPut(t, y, entry.V, entry.P...)
	}
	return y
}

// pathLen is how many nodes cover a point.
func pathLen(t *testing.T, x *tree.Tree, p []uint64) int {
	t.Helper()
	path, e := x.Path(p)
	if e != api.Fine {
		t.Fatal("path", p, e)
	}
	return len(path)
}

// Plain readings: of the entries alone, bit by bit, how many nodes there must be; and of the nodes, each held against each.

func plainAddr(p []uint64, level int) int {
	addr := 0
	for _, c := range p {
		addr = 2*addr + int(c>>level&1)
	}
	return addr
}

// plainSize tells how many nodes, and how long a way, the chapter of trees gives some entries: kids stand where these part.
func plainSize(l []api.Entry) (nodes, depth int) {
	if len(l) == 0 {
		return 0, 0
	}
	for level := 63; level >= 0; level-- {
		kids := map[int][]api.Entry{}
		for _, entry := range l {
			addr := plainAddr(entry.P, level)
			kids[addr] = append(kids[addr], entry)
		}
		if len(kids) == 1 {
			continue
		}
		for _, below := range kids {
			n, d := plainSize(below)
			nodes += n
			depth = max(depth, d)
		}
		return nodes + 1, depth + 1
	}
	return 1, 1
}

// plainNodes are all nodes from n down.
func plainNodes(n *node.Node) []*node.Node {
	if n == nil {
		return nil
	}
	list := []*node.Node{n}
	for _, addr := range n.Shape().Places {
		list = append(list, plainNodes(n.Kid(addr))...)
	}
	return list
}

// plainShared tells how many of b's nodes are, and aren't, a's.
func plainShared(a, b *tree.Tree) (shared, fresh int) {
	inA := plainNodes(a.Root())
	for _, n := range plainNodes(b.Root()) {
		if slices.Contains(inA, n) {
			shared++
		} else {
			fresh++
		}
	}
	return shared, fresh
}

// plainAll tells how many unlike nodes there are in a list, and how many with each tree's.
func plainAll(l []*tree.Tree) (once, together int) {
	var met []*node.Node
	for _, x := range l {
		for _, n := range plainNodes(x.Root()) {
			together++
			if !slices.Contains(met, n) {
				met = append(met, n)
			}
		}
	}
	return len(met), together
}

// Checks.

func wantOne(t *testing.T, x *tree.Tree, nodes, depth int) {
	t.Helper()
	if n := Nodes(x); n != nodes {
		t.Error("nodes", n, "not", nodes)
	}
	if n := Depth(x); n != depth {
		t.Error("depth", n, "not", depth)
	}
}

func wantShared(t *testing.T, a, b *tree.Tree, shared, fresh int) {
	t.Helper()
	if n, e := Shared(a, b); n != shared || e != api.Fine {
		t.Error("shared", n, e, "not", shared)
	}
	if n, e := Fresh(a, b); n != fresh || e != api.Fine {
		t.Error("fresh", n, e, "not", fresh)
	}
}

func wantAll(t *testing.T, once, together int, l ...*tree.Tree) {
	t.Helper()
	if n, m := All(l); n != once || m != together {
		t.Error("all", n, m, "not", once, together)
	}
}

// checkOne: what is told of a tree alone, or of it and itself.
func checkOne(t *testing.T, x *tree.Tree) {
	t.Helper()
	l := walk.All(x.Root())
	nodes, depth := plainSize(l)
	wantOne(t, x, nodes, depth)
	if nodes < len(l) || len(l) > 0 && nodes >= 2*len(l) {
		t.Error(nodes, "nodes of", len(l), "entries")
	}
	wantShared(t, x, x, nodes, 0)
	wantAll(t, nodes, nodes, x)
	wantAll(t, nodes, 3*nodes, x, x, nil, x)
}

// checkTwo: what is told of two trees, both ways round.
func checkTwo(t *testing.T, a, b *tree.Tree) {
	t.Helper()
	shared, fresh := plainShared(a, b)
	back, gone := plainShared(b, a)
	if shared != back {
		t.Fatal("plain readings", shared, back)
	}
	wantShared(t, a, b, shared, fresh)
	wantShared(t, b, a, shared, gone)
	wantAll(t, shared+fresh+gone, 2*shared+fresh+gone, a, b)
	wantAll(t, shared+fresh+gone, 2*shared+fresh+gone, b, a)
}

// checkStep: behind one put, or one Del, of p only nodes on its path are others.
func checkStep(t *testing.T, before, behind *tree.Tree, p []uint64) {
	t.Helper()
	checkTwo(t, before, behind)
	fresh, e := Fresh(before, behind)
	longer := max(pathLen(t, before, p), pathLen(t, behind, p))
	if e != api.Fine || fresh > 66 || fresh > longer {
		t.Error(fresh, e, "fresh ones, of paths of", longer)
	}
}

// The chapter's examples, and those of the whole.

func TestExamples(t *testing.T) {
	x := mustTree(t, 2, []uint64{4, 0}, []uint64{7, 3})
	wantOne(t, x, 3, 2)
	y := mustPut(t, x, 9, 7, 3)
	wantShared(t, x, y, 1, 2)
	wantShared(t, y, x, 1, 2)
	wantAll(t, 5, 6, x, y)
	wantOne(t, mustPut(t, x, 2, 0, 8), 5, 3)
}

// P17.1: no entries, one, two, which part at the lowest level or at the highest one.

func TestNoneOneAndTwo(t *testing.T) {
	for k := 1; k <= 16; k++ {
		none := mustNew(t, k)
		wantOne(t, none, 0, 0)
		wantShared(t, none, none, 0, 0)
		wantShared(t, none, mustNew(t, k), 0, 0)
		wantAll(t, 0, 0, none, none)
		for _, c := range []uint64{1, 1 << 40, 1 << 63, math.MaxUint64} {
			one := mustPut(t, none, 0, all(k, 0)...)
			wantOne(t, one, 1, 1)
			wantShared(t, none, one, 0, 1)
			wantShared(t, one, none, 0, 0)
			two := mustPut(t, one, 0, all(k, c)...)
			wantOne(t, two, 3, 2)
			wantShared(t, none, two, 0, 3)
			wantShared(t, one, two, 1, 2)
			wantShared(t, two, one, 1, 0)
			other := mustDel(t, two, all(k, 0)...)
			wantOne(t, other, 1, 1)
			wantShared(t, two, other, 1, 0)
			wantShared(t, other, two, 1, 2)
			wantShared(t, one, other, 0, 1)
			wantAll(t, 3, 8, none, one, two, other, two, none)
			for _, x := range []*tree.Tree{none, one, two, other} {
				checkOne(t, x)
			}
		}
	}
}

// P17.1: any entries, by chance.

func TestAnyEntries(t *testing.T) {
	n := chance(17)
	for k := 1; k <= 16; k++ {
		for _, level := range []int{0, 1, 2, 5, 31, 62, 63} {
			for _, most := range []int{2, 3, 9, 60} {
				checkOne(t, n.tree(t, k, level, most))
			}
		}
	}
}

// P17.1: each address of each node has a kid, down from a level.

func TestFullTrees(t *testing.T) {
	for _, full := range []struct{ k, levels int }{{1, 1}, {1, 2}, {1, 11}, {2, 1}, {2, 5}, {3, 3}, {5, 2}, {6, 1}, {6, 2}, {7, 1}, {11, 1}} {
		for _, low := range []int{0, 64 - full.levels} {
			x := mustNew(t, full.k)
			entries := 1 << (full.k * full.levels)
			for i := range entries {
				x = mustPut(t, x, 1, fullPoint(full.k, i, low)...)
			}
			nodes := 0
			for level := range full.levels + 1 {
				nodes += 1 << (full.k * level)
			}
			wantOne(t, x, nodes, full.levels+1)
			y := mustPut(t, x, 2, fullPoint(full.k, entries/3, low)...)
			fresh := full.levels + 1
			wantShared(t, x, y, nodes-fresh, fresh)
			wantAll(t, nodes+fresh, 2*nodes, y, x)
			z := mustDel(t, x, fullPoint(full.k, entries/3, low)...)
			gone := 1
			if full.k == 1 {
				// The other kid stands where both stood.
				gone = 2
			}
			wantShared(t, x, z, nodes-full.levels-1, full.levels+1-gone)
			wantShared(t, z, x, nodes-full.levels-1, full.levels+1)
		}
	}
}

// fullPoint is the ith point of a full tree, whose lowest level that one is.
func fullPoint(k, i, low int) []uint64 {
	p := make([]uint64, k)
	for at := 0; i > 0; at++ {
		p[at%k] |= uint64(i&1) << (low + at/k)
		i >>= 1
	}
	return p
}

// Of the greatest K there is one node with as many kids as there can be; to put all of them takes some seconds.

func TestAllKidsOfOneNode(t *testing.T) {
	const kids = 1 << 16
	x := mustNew(t, 16)
	for i := range kids {
		x = mustPut(t, x, 1, fullPoint(16, i, 63)...)
	}
	wantOne(t, x, kids+1, 2)
	for _, i := range []int{0, 13, kids - 1} {
		p := fullPoint(16, i, 63)
		y := mustPut(t, x, 2, p...)
		wantShared(t, x, y, kids-1, 2)
		wantShared(t, y, mustDel(t, y, p...), kids-1, 1)
	}
}

// P17.1, P17.2: versions, each a few steps from the others, held against each other in all pairs.

func TestVersions(t *testing.T) {
	n := chance(3)
	for k := 1; k <= 16; k++ {
		for _, level := range []int{0, 1, 3, 30, 63} {
			versions := []*tree.Tree{n.tree(t, k, level, n.below(40))}
			for range 5 {
				from := versions[n.below(len(versions))]
				versions = append(versions, n.changed(t, from, level, 1+n.below(4)))
			}
			versions = append(versions, mustNew(t, k), apart(t, versions[0]), n.tree(t, k, level, 10))
			for _, a := range versions {
				checkOne(t, a)
				for _, b := range versions {
					checkTwo(t, a, b)
				}
			}
			for range 20 {
				l := n.some(versions)
				once, together := plainAll(l)
				wantAll(t, once, together, l...)
			}
		}
	}
}

// some are a few trees out of a list, with nil trees among them, and some more than once.
func (n *chance) some(versions []*tree.Tree) []*tree.Tree {
	var l []*tree.Tree
	for range n.below(7) {
		if n.below(5) == 0 {
			l = append(l, nil)
		} else {
			l = append(l, versions[n.below(len(versions))])
		}
	}
	return l
}

// P17.1, P17.2: all trees to which three points come by up to three puts and Dels, and all pairs of these.

func TestAllOfThreePoints(t *testing.T) {
	for _, points := range [][][]uint64{
		{{0}, {1}, {2}},
		{{0, 0}, {0, 1}, {1, 1}},
		{{4, 0}, {7, 3}, {0, 8}},
		{{0}, {1 << 62}, {1 << 63}},
		{{4, 4, 4}, {4, 6, 4}, {12, 4, 4}},
	} {
		trees := []*tree.Tree{mustTree(t, len(points[0]), points[:2]...)}
		done := 0
		for range 3 {
			now := len(trees)
			for _, x := range trees[done:now] {
				for _, p := range points {
					trees = append(trees, mustPut(t, x, uint64(len(trees)), p...))
					if y, e := x.Del(p); e == api.Fine {
						trees = append(trees, y)
					}
				}
			}
			done = now
		}
		for i, a := range trees {
			checkOne(t, a)
			for _, b := range trees[i:] {
				checkTwo(t, a, b)
			}
		}
		once, together := plainAll(trees)
		wantAll(t, once, together, trees...)
	}
}

// P17.3: one put, or one Del, at any place.

func TestOneStep(t *testing.T) {
	n := chance(8)
	for k := 1; k <= 16; k++ {
		for _, level := range []int{0, 1, 4, 40, 63} {
			for _, most := range []int{1, 2, 3, 25} {
				x := n.tree(t, k, level, most)
				for _, entry := range walk.All(x.Root()) {
					checkStep(t, x, mustPut(t, x, entry.V+1, entry.P...), entry.P)
					checkStep(t, x, mustDel(t, x, entry.P...), entry.P)
				}
				for range 10 {
					p := n.point(k, level)
					checkStep(t, x, mustPut(t, x, 9, p...), p)
				}
				for _, c := range []uint64{0, 1 << 63, math.MaxUint64} {
					checkStep(t, x, mustPut(t, x, 9, all(k, c)...), all(k, c))
				}
			}
		}
	}
}

// P17.1: a put of a value that is there tells the very same tree, a Del of a point that isn't there none.

func TestStepsThatChangeNothing(t *testing.T) {
	for k := 1; k <= 16; k++ {
		x := mustTree(t, k, all(k, 0), all(k, 3), all(k, 1<<63))
		same := mustPut(t, x, 1, all(k, 3)...)
		wantShared(t, x, same, 5, 0)
		wantShared(t, same, x, 5, 0)
		wantAll(t, 5, 10, x, same)
		none, e := x.Del(all(k, 2))
		if e != api.None {
			t.Fatal("del", e)
		}
		if n, e := Shared(x, none); n != 0 || e != api.Nil {
			t.Error(n, e)
		}
		if n, e := Fresh(x, none); n != 0 || e != api.Nil {
			t.Error(n, e)
		}
		wantAll(t, 5, 5, x, none)
		// The same value once more, but put behind a Del: the entry is another node.
		again := mustPut(t, mustDel(t, x, all(k, 3)...), 1, all(k, 3)...)
		wantShared(t, x, again, 2, 3)
		wantShared(t, again, x, 2, 3)
	}
}

// P17.1: the same entries, shape by shape, but no node in common.

func TestMadeApart(t *testing.T) {
	n := chance(5)
	for k := 1; k <= 16; k++ {
		for _, level := range []int{0, 2, 63} {
			x := n.tree(t, k, level, 50)
			y := apart(t, x)
			if !reflect.DeepEqual(x.Shapes(), y.Shapes()) {
				t.Fatal("shapes", x.Shapes(), y.Shapes())
			}
			nodes := Nodes(x)
			wantOne(t, y, nodes, Depth(x))
			wantShared(t, x, y, 0, nodes)
			wantShared(t, y, x, 0, nodes)
			wantAll(t, 2*nodes, 2*nodes, x, y)
			// Trees told apart as pointers, but with the very same root.
			z := mustOf(t, x.Root())
			wantShared(t, x, z, nodes, 0)
			wantShared(t, z, x, nodes, 0)
			wantAll(t, nodes, 2*nodes, x, z)
		}
	}
}

// P17.1, P17.2: a tree is a part of another one, at any place and as deep as can be.

func TestParts(t *testing.T) {
	n := chance(6)
	for _, k := range []int{1, 2, 3, 7, 16} {
		for _, level := range []int{0, 3, 63} {
			x := n.tree(t, k, level, 40)
			l := []*tree.Tree{x}
			together := Nodes(x)
			for _, below := range plainNodes(x.Root()) {
				part := mustOf(t, below)
				nodes := len(plainNodes(below))
				wantShared(t, x, part, nodes, 0)
				wantShared(t, part, x, nodes, Nodes(x)-nodes)
				l = append(l, part)
				together += nodes
			}
			wantAll(t, Nodes(x), together, l...)
			slices.Reverse(l)
			wantAll(t, Nodes(x), together, l...)
			for _, part := range l {
				checkTwo(t, part, l[n.below(len(l))])
			}
		}
	}
}

func TestPartsOfUnlikeDepths(t *testing.T) {
	x := mustTree(t, 1, []uint64{0}, []uint64{1}, []uint64{2}, []uint64{3})
	// What was the root hangs once, twice, three times as deep.
	y := mustPut(t, x, 7, 1<<20)
	z := mustPut(t, y, 7, 1<<40)
	far := mustPut(t, z, 7, 1<<63)
	for i, one := range []*tree.Tree{x, y, z, far} {
		wantOne(t, one, 7+2*i, 3+i)
		wantShared(t, x, one, 7, 2*i)
		wantShared(t, one, x, 7, 0)
		wantShared(t, one, far, 7+2*i, 2*(3-i))
	}
	wantAll(t, 13, 7+9+11+13, x, y, z, far)
	wantAll(t, 13, 7+9+11+13, far, z, y, x)
	// Two nodes of one tree that both have one kid of a third one beside another one.
	left, e := node.Pair(x.Root().Kid(0), far.Root().Kid(1))
	if e != api.Fine {
		t.Fatal("pair", e)
	}
	wantShared(t, far, mustOf(t, left), 4, 1)
	wantShared(t, mustOf(t, left), far, 4, 9)
}

// P17.1: trees of unlike K have nothing in common, and nobody is refused for it.

func TestUnlikeKs(t *testing.T) {
	for k := 1; k <= 16; k++ {
		for other := 1; other <= 16; other++ {
			if k == other {
				continue
			}
			a := mustTree(t, k, all(k, 0), all(k, 1), all(k, 9))
			b := mustTree(t, other, all(other, 0), all(other, 1))
			wantShared(t, a, b, 0, 3)
			wantShared(t, b, a, 0, 5)
			wantShared(t, mustNew(t, k), b, 0, 3)
			wantShared(t, a, mustNew(t, other), 0, 0)
			wantShared(t, mustNew(t, k), mustNew(t, other), 0, 0)
			wantAll(t, 8, 13, a, b, mustNew(t, k), a, mustNew(t, other))
		}
	}
}

// P17.1, P17.3: the longest way that there can be: at each level an entry hangs beside it.

func TestLongestWay(t *testing.T) {
	for _, k := range []int{1, 2, 8, 16} {
		points := [][]uint64{all(k, 0)}
		for level := range 64 {
			p := all(k, 0)
			p[level%k] = 1 << level
			points = append(points, p)
		}
		x := mustTree(t, k, points...)
		wantOne(t, x, 129, 65)
		checkOne(t, x)
		y := mustPut(t, x, 99, points[0]...)
		wantShared(t, x, y, 64, 65)
		checkStep(t, x, y, points[0])
		z := mustDel(t, x, points[0]...)
		wantOne(t, z, 127, 64)
		wantShared(t, x, z, 64, 63)
		wantShared(t, z, x, 64, 65)
		checkStep(t, x, z, points[0])
		for level, p := range points[1:] {
			y := mustPut(t, x, 99, p...)
			wantShared(t, x, y, 129-65+level, 65-level)
			checkStep(t, x, y, p)
			checkStep(t, x, mustDel(t, x, p...), p)
			checkStep(t, z, mustPut(t, z, 99, p...), p)
		}
		// The other way round it gets longer from put to put, and each node hangs beside one way more.
		var l []*tree.Tree
		y = mustNew(t, k)
		for i, p := range points {
			y = mustPut(t, y, 0, p...)
			wantOne(t, y, 2*i+1, i+1)
			l = append(l, y)
		}
		wantAll(t, 129, 65*65, l...)
	}
}

func TestWayThatIsntTheFirst(t *testing.T) {
	// The longest way is that of the last kid, of one in the midst, of the first one.
	for _, p := range [][]uint64{{1 << 63, 1 << 63}, {0, 1 << 63}, {0, 0}} {
		x := mustTree(t, 2, []uint64{0, 9}, []uint64{5, 1 << 63}, []uint64{1 << 63, 7}, []uint64{1<<63 + 6, 1<<63 + 6})
		for level := range 20 {
			x = mustPut(t, x, 1, p[0]|1<<level, p[1])
		}
		checkOne(t, x)
		if depth := Depth(x); depth < 20 {
			t.Error(p, depth)
		}
	}
}

// P17.2: lists without a tree, and with one; nil trees among others, first and last; the same tree more than once.

func TestLists(t *testing.T) {
	x := mustTree(t, 2, []uint64{4, 0}, []uint64{7, 3}, []uint64{0, 8})
	y := mustPut(t, x, 9, 0, 8)
	none := mustNew(t, 2)
	wantAll(t, 0, 0)
	if once, together := All([]*tree.Tree{}); once != 0 || together != 0 {
		t.Error(once, together)
	}
	wantAll(t, 0, 0, nil)
	wantAll(t, 0, 0, nil, nil, none, nil)
	wantAll(t, 5, 5, x)
	wantAll(t, 5, 5, nil, x)
	wantAll(t, 5, 5, x, nil)
	wantAll(t, 5, 10, x, nil, none, x)
	wantAll(t, 7, 10, x, y)
	wantAll(t, 7, 25, x, nil, y, y, x, nil, none, y)
	wantAll(t, 5, 5000, slices.Repeat([]*tree.Tree{x}, 1000)...)
}

// P17.2: as many versions as somebody might keep; what all have in common is there once.

func TestManyVersions(t *testing.T) {
	const entries, steps = 4096, 3000
	n := chance(9)
	x := mustNew(t, 2)
	for i := range entries {
		x = mustPut(t, x, 0, fullPoint(2, i, 20)...)
	}
	nodes := Nodes(x)
	l := []*tree.Tree{x}
	// The tree is full: a put of another value makes the nodes of one way anew, and all ways are equally long.
	way := Depth(x)
	for i := range steps {
		x = mustPut(t, x, uint64(i+1), fullPoint(2, n.below(entries), 20)...)
		l = append(l, x)
	}
	wantAll(t, nodes+steps*way, (steps+1)*nodes, l...)
	wantShared(t, l[0], l[1], nodes-way, way)
	wantShared(t, l[1], l[0], nodes-way, way)
}

// R4, R6: what is handed in stays as it is, and nothing is kept from call to call.

func TestNothingChanges(t *testing.T) {
	n := chance(12)
	x := n.tree(t, 3, 10, 40)
	y := n.changed(t, x, 10, 5)
	shapes := [][]api.Shape{x.Shapes(), y.Shapes()}
	l := []*tree.Tree{x, nil, y, x}
	handed := slices.Clone(l)
	once, together := plainAll(l)
	for range 3 {
		checkTwo(t, x, y)
		checkOne(t, x)
		wantAll(t, once, together, l...)
	}
	if !slices.Equal(l, handed) {
		t.Error("the list is another one")
	}
	if !reflect.DeepEqual(shapes, [][]api.Shape{x.Shapes(), y.Shapes()}) {
		t.Error("a tree is another one")
	}
}

// P17.1: wrong inputs.

func TestNil(t *testing.T) {
	wantOne(t, nil, 0, 0)
	none := mustNew(t, 1)
	some := mustTree(t, 1, []uint64{1}, []uint64{2})
	for _, two := range [][2]*tree.Tree{{nil, nil}, {nil, none}, {none, nil}, {nil, some}, {some, nil}, {nil, {}}, {{}, nil}} {
		if n, e := Shared(two[0], two[1]); n != 0 || e != api.Nil {
			t.Error("shared", n, e)
		}
		if n, e := Fresh(two[0], two[1]); n != 0 || e != api.Nil {
			t.Error("fresh", n, e)
		}
	}
}

// A tree that no call made has no nodes.

func TestNotMade(t *testing.T) {
	some := mustTree(t, 1, []uint64{1}, []uint64{2})
	wantOne(t, &tree.Tree{}, 0, 0)
	wantShared(t, &tree.Tree{}, &tree.Tree{}, 0, 0)
	wantShared(t, &tree.Tree{}, some, 0, 3)
	wantShared(t, some, &tree.Tree{}, 0, 0)
	wantAll(t, 3, 3, &tree.Tree{}, some, &tree.Tree{})
}
