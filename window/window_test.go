package window

import (
	"math"
	"reflect"
	"slices"
	"strconv"
	"testing"

	"pantile/api"
	"pantile/box"
	"pantile/node"
	"pantile/tree"
)

// greatest is the greatest coordinate, and the greatest value.
const greatest = math.MaxUint64

// chance makes numbers that look like chance, and are the same in each run.
type chance uint64

func (n *chance) below(most int) int {
	*n = *n*6364136223846793005 + 1442695040888963407
	return int(uint64(*n)>>33) % most
}

// point is a point whose bits above a level are those of all others.
func (n *chance) point(k, level int) []uint64 {
	p := make([]uint64, k)
	for i := range p {
		p[i] = 0xA5A5A5A5A5A5A5A5
		for range 1 + n.below(2) {
			p[i] ^= 1 << n.below(level+1)
		}
	}
	return p
}

// entries are up to most entries with unlike points, that part at a level, or below, in z-order.
func (n *chance) entries(k, level, most int) []api.Entry {
	var l []api.Entry
	for range most {
		p := n.point(k, level)
		if !slices.ContainsFunc(l, func(x api.Entry) bool { return slices.Equal(x.P, p) }) {
			l = append(l, at(uint64(n.below(1<<20))<<n.below(45), p...))
		}
	}
	return inOrder(l)
}

// at is an entry.
func at(v uint64, p ...uint64) api.Entry {
	return api.Entry{P: p, V: v}
}

// span is a box of one coordinate.
func span(lo, hi uint64) api.Box {
	return api.Box{Lo: []uint64{lo}, Hi: []uint64{hi}}
}

// between is the box from one point to another one.
func between(lo, hi []uint64) api.Box {
	return api.Box{Lo: slices.Clone(lo), Hi: slices.Clone(hi)}
}

// all has the same coordinate K times.
func all(k int, c uint64) []uint64 {
	return slices.Repeat([]uint64{c}, k)
}

// Plain readings: bit by bit, and entry by entry.

// plainCmp goes down from the highest level to the first one at which the addresses aren't the same.
func plainCmp(p, q []uint64) int {
	for level := 63; level >= 0; level-- {
		for i, c := range p {
			if a, b := c/(1<<level)%2, q[i]/(1<<level)%2; a != b {
				return int(a) - int(b)
			}
		}
	}
	return 0
}

func inOrder(l []api.Entry) []api.Entry {
	slices.SortFunc(l, func(x, y api.Entry) int { return plainCmp(x.P, y.P) })
	return l
}

// plainIn tells whether each coordinate is among those of its side.
func plainIn(b api.Box, p []uint64) bool {
	for i, c := range p {
		if !(b.Lo[i] <= c && c <= b.Hi[i]) {
			return false
		}
	}
	return true
}

// plainFind are those entries that are in a box, and those that aren't.
func plainFind(l []api.Entry, b api.Box) (in, out []api.Entry) {
	for _, x := range l {
		if plainIn(b, x.P) {
			in = append(in, x)
		} else {
			out = append(out, x)
		}
	}
	return in, out
}

func plainSums(l []api.Entry) api.Sums {
	var sums api.Sums
	for i, x := range l {
		if i == 0 {
			sums.Min = x.V
		}
		sums.Count++
		sums.Sum += x.V
		sums.Min = min(sums.Min, x.V)
		sums.Max = max(sums.Max, x.V)
	}
	return sums
}

func sameEntry(x, y api.Entry) bool {
	return x.V == y.V && slices.Equal(x.P, y.P)
}

// nodesOf are all nodes from n down.
func nodesOf(n *node.Node) []*node.Node {
	if n == nil {
		return nil
	}
	list := []*node.Node{n}
	for _, addr := range n.Shape().Places {
		list = append(list, nodesOf(n.Kid(addr))...)
	}
	return list
}

// keyOf says where a node stands: there is no other one of its tree at that level and prefix.
func keyOf(n *node.Node) string {
	key := strconv.Itoa(n.Level())
	for _, c := range n.Prefix() {
		key += " " + strconv.FormatUint(c, 16)
	}
	return key
}

// mustMake puts entries one after the other.
func mustMake(t *testing.T, k int, l []api.Entry) *tree.Tree {
	t.Helper()
	x, e := tree.New(k)
	if e != api.Fine {
		t.Fatal("new", k, e)
	}
	for _, entry := range l {
		if x, e = x.Put(entry.P, entry.V); e != api.Fine {
			t.Fatal("put", entry, e)
		}
	}
	return x
}

// Checks: each asks a tree with the entries l, in z-order, for a box.

// checkWindow asks for all that can be asked.
func checkWindow(t *testing.T, x *tree.Tree, l []api.Entry, b api.Box) {
	t.Helper()
	in, out := plainFind(l, b)
	asked := between(b.Lo, b.Hi)
	root := x.Root()
	checkFound(t, x, in, b)
	kept, e := Keep(x, b)
	checkLeft(t, "keep", x, kept, e, in, b)
	cleared, e := Clear(x, b)
	checkLeft(t, "clear", x, cleared, e, out, b)
	checkTogether(t, cleared, kept, l, b)
	if x.Root() != root || !reflect.DeepEqual(asked, b) {
		t.Fatal("what was handed in has become another one", asked, b)
	}
}

func checkFound(t *testing.T, x *tree.Tree, in []api.Entry, b api.Box) {
	t.Helper()
	if got, e := Find(x, b); e != api.Fine || !slices.EqualFunc(got, in, sameEntry) {
		t.Fatal("find", b, "told", got, e, "not", in)
	}
	if got, e := Sums(x, b); e != api.Fine || got != plainSums(in) {
		t.Fatal("sums", b, "told", got, e, "not", plainSums(in))
	}
	n := len(in)
	for _, most := range []int{math.MinInt, -1, 0, 1, n / 2, n - 1, n, n + 1, math.MaxInt} {
		want := in[:min(max(most, 0), n)]
		got, more, e := Some(x, b, most)
		if e != api.Fine || !slices.EqualFunc(got, want, sameEntry) || more != (len(want) < n) {
			t.Fatal("some", b, most, "told", got, more, e, "not", want)
		}
	}
}

// checkLeft: y is x with just the entries l, node by node, and has all nodes in common with x that it can have.
func checkLeft(t *testing.T, what string, x, y *tree.Tree, e api.Code, l []api.Entry, b api.Box) {
	t.Helper()
	if e != api.Fine || y == nil {
		t.Fatal(what, b, e)
	}
	if y.K() != x.K() || !reflect.DeepEqual(y.Shapes(), mustMake(t, x.K(), l).Shapes()) || y.Root().Sums() != plainSums(l) {
		t.Fatal(what, b, "told", y.K(), y.Shapes(), "not", l)
	}
	if (x == y) != (x.Len() == len(l)) {
		t.Fatal(what, b, "leaves", len(l), "of", x.Len(), "the very same tree:", x == y)
	}
	old := map[string]*node.Node{}
	for _, n := range nodesOf(x.Root()) {
		old[keyOf(n)] = n
	}
	for _, n := range nodesOf(y.Root()) {
		// What stands at the same place, and has lost nothing, needn't be another one.
		if was := old[keyOf(n)]; was == nil || was.Sums().Count == n.Sums().Count && was != n {
			t.Fatal(what, b, "made a new node", n.Shape())
		}
	}
}

// checkTogether: each entry is either cleared or kept, and nothing else is.
func checkTogether(t *testing.T, cleared, kept *tree.Tree, l []api.Entry, b api.Box) {
	t.Helper()
	if cleared.Len()+kept.Len() != len(l) {
		t.Fatal(b, "leaves", cleared.Len(), "and keeps", kept.Len(), "of", len(l))
	}
	for _, x := range l {
		v, left, _ := cleared.Get(x.P)
		w, stays, _ := kept.Get(x.P)
		// That which doesn't have the point tells 0.
		if left == stays || v+w != x.V {
			t.Fatal(b, "of", x, "leaves", v, left, "and keeps", w, stays)
		}
	}
}

// boxesFor are boxes that hold all of a tree, a part of it, and nothing, or that are empty.
func boxesFor(n *chance, k int, l []api.Entry, nodes []*node.Node) []api.Box {
	boxes := []api.Box{
		between(all(k, 0), all(k, greatest)),
		between(all(k, 1), all(k, greatest-1)),
		between(all(k, 0), all(k, 0)),
		between(all(k, 0), all(k, 1<<63-1)),
		between(all(k, 1<<63), all(k, greatest)),
		between(all(k, greatest), all(k, 0)),
	}
	for range 20 {
		boxes = append(boxes, anyBox(n, k, l))
	}
	for i, x := range l {
		boxes = append(boxes, between(x.P, x.P))
		p := slices.Clone(x.P)
		p[i%k]++
		boxes = append(boxes, between(p, p), between(x.P, p), between(p, x.P))
	}
	for i, x := range nodes {
		cell, _ := box.Cell(x.Prefix(), x.Level())
		boxes = append(boxes, cell)
		boxes = append(boxes, boxesBeside(cell, i%k)...)
	}
	return boxes
}

// anyBox is a box whose sides are from a coordinate of an entry to that of another one; some are empty.
func anyBox(n *chance, k int, l []api.Entry) api.Box {
	b := between(all(k, 0), all(k, greatest))
	for i := range k {
		if len(l) == 0 || n.below(4) == 0 {
			continue
		}
		lo, hi := l[n.below(len(l))].P[i], l[n.below(len(l))].P[i]
		if n.below(8) > 0 {
			lo, hi = min(lo, hi), max(lo, hi)
		}
		b.Lo[i], b.Hi[i] = lo, hi
	}
	return b
}

// boxesBeside are boxes that are not quite a cell: one side is one less at either end, or all that is ahead of it, or behind it, or touches it at that edge alone.
func boxesBeside(cell api.Box, i int) []api.Box {
	var boxes []api.Box
	side := func(lo, hi uint64) {
		b := between(cell.Lo, cell.Hi)
		b.Lo[i], b.Hi[i] = lo, hi
		boxes = append(boxes, b)
	}
	lo, hi := cell.Lo[i], cell.Hi[i]
	side(lo+1, hi)
	side(lo, hi-1)
	side(0, lo-1)
	side(hi+1, greatest)
	side(0, lo)
	side(hi, greatest)
	side(lo, lo+(hi-lo)/2)
	side(hi, lo)
	return boxes
}

// P9.1, P9.2: the chapter's example.

func TestExample(t *testing.T) {
	x := mustMake(t, 2, []api.Entry{at(1, 7, 3), at(2, 0, 8), at(3, 4, 0)})
	l := []api.Entry{at(3, 4, 0), at(1, 7, 3), at(2, 0, 8)}
	b := api.Box{Lo: []uint64{4, 0}, Hi: []uint64{9, 3}}
	got, e := Find(x, b)
	if e != api.Fine || !slices.EqualFunc(got, l[:2], sameEntry) {
		t.Error(got, e)
	}
	got, more, e := Some(x, b, 1)
	if e != api.Fine || !more || !slices.EqualFunc(got, l[:1], sameEntry) {
		t.Error(got, more, e)
	}
	if sums, e := Sums(x, b); e != api.Fine || sums != (api.Sums{Count: 2, Sum: 4, Min: 1, Max: 3}) {
		t.Error(sums, e)
	}
	checkWindow(t, x, l, b)
	if kept, _ := Keep(x, b); kept.Root() != x.Root().Kid(0) {
		t.Error("the kid that is left isn't that of the tree")
	}
	if cleared, _ := Clear(x, b); cleared.Root() != x.Root().Kid(1) {
		t.Error("the kid that is left isn't that of the tree")
	}
}

// P9.1 to P9.3: all lists of points of three bits, and all boxes among them.

func TestAllOfThreeBits(t *testing.T) {
	for set := range 1 << 8 {
		var l []api.Entry
		for c := range uint64(8) {
			if set>>c&1 == 1 {
				l = append(l, at(c*7%5, c))
			}
		}
		x := mustMake(t, 1, l)
		for lo := range uint64(8) {
			for hi := range uint64(8) {
				checkWindow(t, x, l, span(lo, hi))
			}
		}
	}
}

// P9.1 to P9.3: some lists of points of two bits, twice, and all boxes among them.

func TestBoxesOfTwoBits(t *testing.T) {
	n := chance(5)
	for range 40 {
		var l []api.Entry
		for i := range uint64(16) {
			if n.below(3) > 0 {
				l = append(l, at(uint64(n.below(9)), i/4, i%4))
			}
		}
		l = inOrder(l)
		x := mustMake(t, 2, l)
		for i := range uint64(256) {
			checkWindow(t, x, l, api.Box{Lo: []uint64{i & 3, i >> 2 & 3}, Hi: []uint64{i >> 4 & 3, i >> 6}})
		}
	}
}

// P9.1 to P9.3: any entries of each K, that part at levels at their ends and between.

func TestAnyEntries(t *testing.T) {
	for k := 1; k <= 16; k++ {
		n := chance(k)
		for _, level := range []int{0, 1, 5, 31, 62, 63} {
			l := n.entries(k, level, 1+n.below(14))
			x := mustMake(t, k, l)
			for _, b := range boxesFor(&n, k, l, nodesOf(x.Root())) {
				checkWindow(t, x, l, b)
			}
		}
	}
}

// P9.1, P9.2: trees without entries, and with one.

func TestNoneAndOne(t *testing.T) {
	for k := 1; k <= 16; k++ {
		n := chance(50 + k)
		x := mustMake(t, k, nil)
		for _, b := range boxesFor(&n, k, nil, nil) {
			checkWindow(t, x, nil, b)
		}
		for _, c := range []uint64{0, 1, 5, 1<<63 - 1, 1 << 63, greatest} {
			l := []api.Entry{at(c, all(k, c)...)}
			x := mustMake(t, k, l)
			for _, b := range boxesFor(&n, k, l, nodesOf(x.Root())) {
				checkWindow(t, x, l, b)
			}
		}
	}
}

// P9.1, P9.2: boxes that cut nodes at each level on a long way.

func TestLongWay(t *testing.T) {
	for _, k := range []int{1, 2, 16} {
		for _, ground := range []uint64{0, greatest, 0x5555555555555555} {
			l := []api.Entry{at(99, all(k, ground)...)}
			for level := range 64 {
				q := all(k, ground)
				q[level%k] ^= 1 << level
				l = append(l, at(uint64(level), q...))
			}
			l = inOrder(l)
			x := mustMake(t, k, l)
			if x.Root().Level() != 63 || len(nodesOf(x.Root())) != 129 {
				t.Fatal(k, ground, x.Root().Level())
			}
			for level := -1; level < 64; level++ {
				cell, _ := box.Cell(all(k, ground), level)
				checkWindow(t, x, l, cell)
				beside := boxesBeside(cell, max(level, 0)%k)
				checkWindow(t, x, l, beside[(level+1)%len(beside)])
				checkWindow(t, x, l, beside[(level+4)%len(beside)])
			}
		}
	}
}

// P9.1, P9.2: boxes at the edges of the nodes: they touch, or they don't.

func TestEdges(t *testing.T) {
	l := inOrder([]api.Entry{at(1, 4, 0), at(2, 7, 3), at(3, 0, 8), at(4, 8, 8), at(5, 8, 15)})
	x := mustMake(t, 2, l)
	for _, c := range []struct {
		lo, hi [2]uint64
		in     int
	}{
		{[2]uint64{0, 0}, [2]uint64{3, 7}, 0},
		{[2]uint64{0, 0}, [2]uint64{4, 7}, 1},
		{[2]uint64{7, 3}, [2]uint64{8, 7}, 1},
		{[2]uint64{7, 3}, [2]uint64{8, 8}, 2},
		{[2]uint64{0, 0}, [2]uint64{15, 7}, 2},
		{[2]uint64{0, 0}, [2]uint64{15, 8}, 4},
		{[2]uint64{0, 8}, [2]uint64{7, 8}, 1},
		{[2]uint64{1, 8}, [2]uint64{7, 8}, 0},
		{[2]uint64{0, 16}, [2]uint64{15, greatest}, 0},
		{[2]uint64{0, 15}, [2]uint64{15, greatest}, 1},
		{[2]uint64{8, 9}, [2]uint64{8, 14}, 0},
		{[2]uint64{8, 8}, [2]uint64{8, 8}, 1},
		{[2]uint64{8, 9}, [2]uint64{8, 8}, 0},
		{[2]uint64{0, 0}, [2]uint64{8, 15}, 5},
	} {
		b := between(c.lo[:], c.hi[:])
		if got, e := Find(x, b); len(got) != c.in || e != api.Fine {
			t.Error(b, got, e)
		}
		checkWindow(t, x, l, b)
	}
}

// P9.2: a node is left with one kid, as it was, or as another one; or with none.

func TestOneKidLeft(t *testing.T) {
	for k := 1; k <= 16; k++ {
		for _, level := range []int{1, 30, 63} {
			high := func(c uint64) []uint64 { return all(k, 1<<level|c) }
			l := []api.Entry{at(1, all(k, 0)...), at(2, all(k, 1)...), at(3, high(0)...), at(4, high(1)...)}
			x := mustMake(t, k, l)
			low := x.Root().Kid(0)
			if low == nil || x.Root().Level() != level || low.Level() != 0 {
				t.Fatal(k, level, x.Shapes())
			}
			for _, c := range []struct {
				b              api.Box
				kept, cleared  *node.Node
				anew, nothings bool
			}{
				{between(all(k, 0), all(k, 1)), low, x.Root().Kid(1<<k - 1), false, false},
				{between(high(0), high(1)), x.Root().Kid(1<<k - 1), low, false, false},
				{between(all(k, 1), all(k, 1)), low.Kid(1<<k - 1), nil, true, false},
				{between(all(k, 1), high(1)), nil, low.Kid(0), true, false},
				{between(all(k, 0), high(0)), nil, x.Root().Kid(1<<k - 1).Kid(1<<k - 1), true, false},
				{between(all(k, 0), high(1)), x.Root(), nil, false, true},
			} {
				checkWindow(t, x, l, c.b)
				kept, _ := Keep(x, c.b)
				cleared, _ := Clear(x, c.b)
				if c.kept != nil && kept.Root() != c.kept || c.cleared != nil && cleared.Root() != c.cleared {
					t.Error(k, level, c.b, "doesn't leave the very same kids")
				}
				if c.anew && (kept == x || cleared == x) || c.nothings && cleared.Root() != nil {
					t.Error(k, level, c.b, "leaves what it mustn't")
				}
			}
		}
	}
}

// P9.2: what goes leaves the root one kid that is another node than it was.

func TestOneChangedKidLeft(t *testing.T) {
	l := []api.Entry{at(1, 0), at(2, 1), at(3, 2), at(4, 8)}
	x := mustMake(t, 1, l)
	// The root's kids are the node of 0 to 2, which loses an entry, and 8, which goes.
	kept, _ := Keep(x, span(1, 2))
	checkLeft(t, "keep", x, kept, api.Fine, l[1:3], span(1, 2))
	l = []api.Entry{at(1, 0), at(2, 7), at(3, 8), at(4, 9), at(5, 15)}
	x = mustMake(t, 1, l)
	// The kid of 0 and 7 goes, and that of 8 to 15 loses an entry.
	cleared, _ := Clear(x, span(0, 8))
	checkLeft(t, "clear", x, cleared, api.Fine, l[3:], span(0, 8))
	if cleared.Root().Level() != 2 || cleared.Root() == x.Root().Kid(1) {
		t.Error("what is left is", cleared.Shapes())
	}
}

// P9.1, P9.2: nodes with kids at many addresses, of which few, many or all go.

func TestManyKids(t *testing.T) {
	for _, k := range []int{1, 2, 3, 6, 7, 11, 16} {
		n := chance(400 + k)
		for _, level := range []int{0, 40, 63} {
			l := manyKids(&n, k, level)
			x := mustMake(t, k, l)
			boxes := []api.Box{between(all(k, 0), all(k, 1<<level))}
			for range 12 {
				b := between(all(k, 0), all(k, greatest))
				for range 1 + n.below(3) {
					if i := n.below(k); n.below(2) == 0 {
						b.Lo[i] = 1 << level
					} else {
						b.Hi[i] = 1<<level - 1
					}
				}
				boxes = append(boxes, b)
			}
			for _, x := range l[:min(4, len(l))] {
				boxes = append(boxes, between(x.P, x.P))
			}
			for _, b := range boxes {
				checkWindow(t, x, l, b)
			}
		}
	}
}

// manyKids are entries at up to 200 addresses of one level, some with another one beside them, if there is a level below.
func manyKids(n *chance, k, level int) []api.Entry {
	var l []api.Entry
	for i := range min(1<<k, 200) {
		addr := i * ((1<<k + 199) / 200)
		if addr >= 1<<k {
			break
		}
		p := make([]uint64, k)
		for j := range p {
			p[j] = uint64(addr>>(k-1-j)&1) << level
		}
		l = append(l, at(uint64(i*i%31), p...))
		if level > 0 && n.below(4) == 0 {
			q := slices.Clone(p)
			q[n.below(k)] |= 1 << n.below(level)
			l = append(l, at(uint64(i), q...))
		}
	}
	return inOrder(l)
}

// P9.1: the sum goes round at 2^64, and the least value may be the greatest number.

func TestSumsAtTheirEnds(t *testing.T) {
	l := []api.Entry{at(greatest, 1), at(greatest, 2), at(0, 3), at(greatest, 9)}
	x := mustMake(t, 1, l)
	for _, c := range []struct {
		b    api.Box
		want api.Sums
	}{
		{span(0, 0), api.Sums{}},
		{span(5, 4), api.Sums{}},
		{span(1, 1), api.Sums{Count: 1, Sum: greatest, Min: greatest, Max: greatest}},
		{span(1, 2), api.Sums{Count: 2, Sum: greatest - 1, Min: greatest, Max: greatest}},
		{span(3, 3), api.Sums{Count: 1}},
		{span(2, 9), api.Sums{Count: 3, Sum: greatest - 1, Min: 0, Max: greatest}},
		{span(0, greatest), api.Sums{Count: 4, Sum: greatest - 2, Min: 0, Max: greatest}},
	} {
		if got, e := Sums(x, c.b); got != c.want || e != api.Fine {
			t.Error(c.b, got, e)
		}
	}
}

// P9.1: Some stops within a node that lies in the box as a whole, at its end, and ahead of the next one.

func TestSomeStops(t *testing.T) {
	var l []api.Entry
	for c := range uint64(40) {
		l = append(l, at(c%7, c))
	}
	x := mustMake(t, 1, l)
	for _, b := range []api.Box{span(0, greatest), span(0, 63), span(3, 36), span(8, 15), span(7, 16), span(39, 99), span(40, 99)} {
		in, _ := plainFind(l, b)
		for most := -2; most < 44; most++ {
			want := in[:min(max(most, 0), len(in))]
			got, more, e := Some(x, b, most)
			if e != api.Fine || more != (len(want) < len(in)) || !slices.EqualFunc(got, want, sameEntry) {
				t.Error(b, most, got, more, e)
			}
		}
	}
}

// checkRefused asks all calls, and nothing but the code may be told.
func checkRefused(t *testing.T, x *tree.Tree, b api.Box, want api.Code) {
	t.Helper()
	if l, e := Find(x, b); len(l) != 0 || e != want {
		t.Error("find", b, l, e)
	}
	for _, most := range []int{-1, 0, 1, math.MaxInt} {
		if l, more, e := Some(x, b, most); len(l) != 0 || more || e != want {
			t.Error("some", b, most, l, more, e)
		}
	}
	if sums, e := Sums(x, b); sums != (api.Sums{}) || e != want {
		t.Error("sums", b, sums, e)
	}
	if y, e := Clear(x, b); y != nil || e != want {
		t.Error("clear", b, y, e)
	}
	if y, e := Keep(x, b); y != nil || e != want {
		t.Error("keep", b, y, e)
	}
}

// wrongBoxes are boxes of which none is a right one of K coordinates.
func wrongBoxes(k int) []api.Box {
	boxes := []api.Box{{}, {Lo: []uint64{}, Hi: []uint64{}}, {Lo: all(k, 0)}, {Hi: all(k, greatest)}}
	for _, other := range []int{0, 1, 2, k - 1, k + 1, 15, 16, 17, 32, 1<<16 + k} {
		if other == k {
			continue
		}
		boxes = append(boxes,
			between(all(other, 0), all(other, greatest)),
			between(all(other, greatest), all(other, 0)),
			between(all(k, 0), all(other, greatest)),
			between(all(other, 0), all(k, greatest)),
		)
	}
	return boxes
}

// P9.1, P9.2: what is refused, with the first error that holds.

func TestRefused(t *testing.T) {
	for k := 1; k <= 16; k++ {
		for _, l := range [][]api.Entry{nil, {at(7, all(k, 0)...)}, {at(7, all(k, 0)...), at(8, all(k, greatest)...)}} {
			x := mustMake(t, k, l)
			for _, b := range wrongBoxes(k) {
				checkRefused(t, x, b, api.Dim)
			}
			checkWindow(t, x, l, between(all(k, 0), all(k, greatest)))
		}
	}
}

func TestNil(t *testing.T) {
	checkRefused(t, nil, span(0, greatest), api.Nil)
	checkRefused(t, nil, span(1, 0), api.Nil)
	for _, b := range wrongBoxes(1) { // Nil comes ahead of Dim
		checkRefused(t, nil, b, api.Nil)
		checkRefused(t, new(tree.Tree), b, api.Dim)
	}
	checkRefused(t, new(tree.Tree), span(0, greatest), api.Dim)
}

// P9.1: what lies in a box as a whole isn't gone into, and nobody goes on who has seen enough.

func TestNodesThatAreMet(t *testing.T) {
	var l []api.Entry
	for c := range uint64(64) {
		l = append(l, at(c, c))
	}
	x := mustMake(t, 1, l)
	for _, c := range []struct {
		b    api.Box
		want []int
	}{
		{span(0, 63), []int{5}},
		{span(0, greatest), []int{5}},
		{span(8, 15), []int{2}},
		{span(7, 32), []int{-1, 2, 3, -1}},
		{span(31, 33), []int{-1, 0}},
		{span(64, greatest), nil},
		{span(33, 31), nil},
	} {
		for most := 1; most <= 5; most++ {
			var levels []int
			each(x, c.b, func(n *node.Node) bool {
				levels = append(levels, n.Level())
				return len(levels) < most
			})
			if !slices.Equal(levels, c.want[:min(most, len(c.want))]) {
				t.Error(c.b, most, levels)
			}
		}
	}
}

// P9.1, P9.2: trees stay as they are, whatever is made of them, and what is made of them can be asked, too.

func TestVersionsStay(t *testing.T) {
	n := chance(11)
	l := n.entries(3, 9, 40)
	first := mustMake(t, 3, l)
	shapes := first.Shapes()
	x, left := first, l
	for range 60 {
		b := anyBox(&n, 3, l)
		checkWindow(t, x, left, b)
		in, out := plainFind(left, b)
		if 2*len(in) < len(left) {
			x, _ = Clear(x, b)
			left = out
		} else {
			x, _ = Keep(x, b)
			left = in
		}
		if n.below(9) == 0 {
			x, left = first, l
		}
	}
	if !reflect.DeepEqual(shapes, first.Shapes()) {
		t.Error("the tree has become another one")
	}
}

// P9.1, P9.2: what is handed in isn't kept or changed, and what is told is the caller's.

func TestListsAreTheCallers(t *testing.T) {
	l := []api.Entry{at(3, 4, 0), at(1, 7, 3), at(2, 0, 8)}
	x := mustMake(t, 2, l)
	lo, hi := []uint64{4, 0, 77}, []uint64{9, 3, 88}
	b := api.Box{Lo: lo[:2], Hi: hi[:2]}
	found, _ := Find(x, b)
	some, _, _ := Some(x, b, 1)
	kept, _ := Keep(x, b)
	cleared, _ := Clear(x, b)
	if !slices.Equal(lo, []uint64{4, 0, 77}) || !slices.Equal(hi, []uint64{9, 3, 88}) {
		t.Error(lo, hi)
	}
	for _, entry := range append(found, some...) {
		clear(entry.P)
		_ = append(entry.P, 1)
	}
	clear(found)
	clear(lo)
	clear(hi)
	b = between([]uint64{4, 0}, []uint64{9, 3})
	checkWindow(t, x, l, b)
	checkLeft(t, "keep", x, kept, api.Fine, l[:2], b)
	checkLeft(t, "clear", x, cleared, api.Fine, l[2:], b)
}

// P9.1 to P9.3: many entries.

func TestManyEntries(t *testing.T) {
	for _, k := range []int{1, 2, 3, 16} {
		n := chance(300 + k)
		seen := map[string]bool{}
		var l []api.Entry
		for i := range 2500 {
			p := make([]uint64, k)
			for j := range p {
				p[j] = uint64(n.below(1 << 12))
			}
			entry := at(uint64(i), p...)
			leaf, _ := node.Leaf(p, 0)
			if key := keyOf(leaf); !seen[key] {
				seen[key] = true
				l = append(l, entry)
			}
		}
		l = inOrder(l)
		x := mustMake(t, k, l)
		for range 6 {
			checkWindow(t, x, l, anyBox(&n, k, l))
		}
		checkWindow(t, x, l, between(all(k, 0), all(k, 1<<12-1)))
		checkWindow(t, x, l, between(all(k, 0), all(k, 1<<11)))
	}
}
