package node

import (
	"maps"
	"math"
	"reflect"
	"slices"
	"testing"

	"pantile/api"
)

// greatest is the greatest coordinate, and the greatest value.
const greatest = math.MaxUint64

// steps makes numbers that look like chance, and are the same in each run.
type steps uint64

func (n *steps) below(most int) int {
	*n = *n*6364136223846793005 + 1442695040888963407
	return int(uint64(*n)>>33) % most
}

// chanceEntries are up to n entries with unlike points, that part at a level, or below.
func chanceEntries(chance *steps, k, level, n int) []api.Entry {
	above := make([]uint64, k)
	for i := range above {
		above[i] = plainCut(uint64(chance.below(1<<30))<<34, level)
	}
	var l []api.Entry
	for range n {
		p := slices.Clone(above)
		for i := range p {
			p[i] |= uint64(chance.below(2)) << level
			if low := chance.below(level + 1); low < level {
				p[i] |= uint64(chance.below(2)) << low
			}
		}
		known := slices.ContainsFunc(l, func(x api.Entry) bool { return slices.Equal(x.P, p) })
		if !known {
			l = append(l, api.Entry{P: p, V: uint64(chance.below(1<<20)) << chance.below(45)})
		}
	}
	return l
}

// shuffled are the same entries in another order.
func shuffled(chance *steps, l []api.Entry) []api.Entry {
	l = slices.Clone(l)
	for i := range l {
		j := chance.below(i + 1)
		l[i], l[j] = l[j], l[i]
	}
	return l
}

// Plain readings: bit by bit, and entry by entry.

func plainBit(c uint64, level int) uint64 {
	return c / (1 << level) % 2
}

func plainAddr(p []uint64, level int) int {
	addr := 0
	for _, c := range p {
		addr = 2*addr + int(plainBit(c, level))
	}
	return addr
}

func plainCut(c uint64, level int) uint64 {
	unit := uint64(1)
	for at := 0; at <= level; at++ {
		c -= plainBit(c, at) * unit
		unit *= 2
	}
	return c
}

func plainCutPoint(p []uint64, level int) []uint64 {
	var q []uint64
	for _, c := range p {
		q = append(q, plainCut(c, level))
	}
	return q
}

// plainLevel is the highest level at which not all entries have one address, -1 if there is none.
func plainLevel(l []api.Entry) int {
	for level := 63; level >= 0; level-- {
		for _, x := range l {
			if plainAddr(x.P, level) != plainAddr(l[0].P, level) {
				return level
			}
		}
	}
	return -1
}

func plainSums(l []api.Entry) api.Sums {
	s := api.Sums{Min: l[0].V, Max: l[0].V}
	for _, x := range l {
		s.Count++
		s.Sum += x.V
		if x.V < s.Min {
			s.Min = x.V
		}
		if x.V > s.Max {
			s.Max = x.V
		}
	}
	return s
}

// plainKids are the entries of each kid, by its address; an entry has none.
func plainKids(l []api.Entry, level int) map[int][]api.Entry {
	kids := map[int][]api.Entry{}
	if level < 0 {
		return kids
	}
	for _, x := range l {
		addr := plainAddr(x.P, level)
		kids[addr] = append(kids[addr], x)
	}
	return kids
}

func mustLeaf(t *testing.T, v uint64, p ...uint64) *Node {
	t.Helper()
	n, e := Leaf(p, v)
	if e != api.Fine || n == nil {
		t.Fatal("leaf", p, v, e)
	}
	return n
}

func mustPair(t *testing.T, a, b *Node) *Node {
	t.Helper()
	n, e := Pair(a, b)
	if e != api.Fine || n == nil {
		t.Fatal("pair", a.Shape(), b.Shape(), e)
	}
	return n
}

func mustWith(t *testing.T, n, kid *Node) *Node {
	t.Helper()
	out, e := n.With(kid)
	if e != api.Fine || out == nil {
		t.Fatal("with", n.Shape(), kid.Shape(), e)
	}
	return out
}

func mustWithout(t *testing.T, n *Node, addr int) *Node {
	t.Helper()
	out, e := n.Without(addr)
	if e != api.Fine || out == nil {
		t.Fatal("without", n.Shape(), addr, e)
	}
	return out
}

// mustMake makes the node of some entries, whose kids come in the order of their first entries.
func mustMake(t *testing.T, l []api.Entry) *Node {
	t.Helper()
	level := plainLevel(l)
	if level < 0 {
		return mustLeaf(t, l[0].V, l[0].P...)
	}
	kids := plainKids(l, level)
	var first, n *Node
	for _, x := range l {
		addr := plainAddr(x.P, level)
		below, is := kids[addr]
		if !is {
			continue
		}
		delete(kids, addr)
		kid := mustMake(t, below)
		if first == nil {
			first = kid
		} else if n == nil {
			n = mustPair(t, first, kid)
		} else {
			n = mustWith(t, n, kid)
		}
	}
	return n
}

// someAddrs are all addresses of few bits, else those at the ends, and beside the given ones; and numbers that are no addresses.
func someAddrs(k int, places []int) []int {
	list := []int{math.MinInt, math.MinInt + 1, -1 << 32, -65, -64, -1, 1 << k, 1<<k + 1, 1 << (k + 1), 1<<16 + 3, 1 << 32, math.MaxInt - 1, math.MaxInt}
	if k <= 4 {
		for addr := range 1 << k {
			list = append(list, addr)
		}
		return list
	}
	list = append(list, 0, 1, 1<<k-2, 1<<k-1)
	for i, addr := range places {
		if i < 20 || i > len(places)-20 {
			list = append(list, addr-1, addr, addr+1)
		}
	}
	return list
}

// checkNode asks a node all that can be asked, and so all nodes below it; l are its entries, in any order.
func checkNode(t *testing.T, n *Node, l []api.Entry) {
	t.Helper()
	level := plainLevel(l)
	prefix := plainCutPoint(l[0].P, level)
	if n.K() != len(prefix) || n.Level() != level || !slices.Equal(n.Prefix(), prefix) {
		t.Fatal(l, "told", n.K(), n.Level(), n.Prefix())
	}
	if n.Sums() != plainSums(l) {
		t.Fatal(l, "sums", n.Sums(), "not", plainSums(l))
	}
	if x, ok := n.Entry(); ok != (level < 0) || ok && !reflect.DeepEqual(x, l[0]) || !ok && (x.P != nil || x.V != 0) {
		t.Fatal(l, "entry", x, ok)
	}
	checkCovers(t, n, level, prefix, l)
	kids := plainKids(l, level)
	checkKids(t, n, level, prefix, l[0].V, slices.Sorted(maps.Keys(kids)))
	for addr, below := range kids {
		checkNode(t, n.Kid(addr), below)
	}
}

// checkCovers asks for points within and without, and for such as have another number of coordinates, or are none.
func checkCovers(t *testing.T, n *Node, level int, prefix []uint64, l []api.Entry) {
	t.Helper()
	for _, x := range l {
		if !n.Covers(x.P) {
			t.Fatal(level, prefix, "doesn't cover", x.P)
		}
	}
	for i := range prefix {
		for _, at := range []int{0, level - 1, level, level + 1, level + 2, 63} {
			if at < 0 || at > 63 {
				continue
			}
			p := slices.Clone(prefix)
			p[i] ^= 1 << at
			if n.Covers(p) != (at <= level) {
				t.Fatal(level, prefix, "covers", p, n.Covers(p))
			}
		}
	}
	for _, p := range [][]uint64{nil, {}, prefix[1:], slices.Concat(prefix, []uint64{0}), slices.Concat(prefix, prefix), make([]uint64, 17)} {
		if n.Covers(p) {
			t.Fatal(level, prefix, "covers", p)
		}
	}
}

// checkKids asks for kids at places, which are rising, and for the shape.
func checkKids(t *testing.T, n *Node, level int, prefix []uint64, v uint64, places []int) {
	t.Helper()
	k := len(prefix)
	dense := k <= 6 && 2*len(places) > 1<<k
	if level >= 0 {
		v = 0
	}
	if s := n.Shape(); s.Level != level || !slices.Equal(s.Prefix, prefix) || !slices.Equal(s.Places, places) || s.Dense != dense || s.V != v {
		t.Fatal(level, prefix, places, v, "shape", s)
	}
	falling := slices.Clone(places)
	slices.Reverse(falling)
	for _, addr := range someAddrs(k, places) {
		if kid := n.Kid(addr); (kid != nil) != slices.Contains(places, addr) {
			t.Fatal(level, prefix, places, "kid", addr, kid)
		}
		at, kid := n.From(addr)
		checkFound(t, n, "from", addr, at, kid, places, func(place int) bool { return place >= addr })
		at, kid = n.UpTo(addr)
		checkFound(t, n, "up to", addr, at, kid, falling, func(place int) bool { return place <= addr })
	}
}

// checkFound: what was told must be the first of some places that is good, and the kid there; 0 and nil if none is.
func checkFound(t *testing.T, n *Node, what string, addr, at int, kid *Node, places []int, good func(place int) bool) {
	t.Helper()
	wantAt, wantKid := 0, (*Node)(nil)
	if i := slices.IndexFunc(places, good); i >= 0 {
		wantAt, wantKid = places[i], n.Kid(places[i])
	}
	if at != wantAt || kid != wantKid {
		t.Fatal(places, what, addr, "told", at, kid)
	}
}

// P6.1, P6.2: the chapter's example.

func TestExample(t *testing.T) {
	a, b := mustLeaf(t, 10, 4, 0), mustLeaf(t, 20, 7, 3)
	n := mustPair(t, a, b)
	if n.Level() != 1 || !slices.Equal(n.Prefix(), []uint64{4, 0}) || n.Kid(0) != a || n.Kid(3) != b || !slices.Equal(n.Shape().Places, []int{0, 3}) {
		t.Error(n.Shape())
	}
	checkNode(t, n, []api.Entry{{P: []uint64{7, 3}, V: 20}, {P: []uint64{4, 0}, V: 10}})
}

// P6.1, P6.2: entries of one coordinate up to 16, with coordinates and values at their ends.

func TestLeaf(t *testing.T) {
	for k := 1; k <= 16; k++ {
		for _, c := range []uint64{0, 1, 1 << 63, greatest - 1, greatest} {
			for _, v := range []uint64{0, 1, 1 << 63, greatest} {
				p := slices.Repeat([]uint64{c}, k)
				p[0] ^= 2
				checkNode(t, mustLeaf(t, v, p...), []api.Entry{{P: p, V: v}})
			}
		}
	}
}

func TestLeafOfNoPoint(t *testing.T) {
	for _, p := range [][]uint64{nil, {}, make([]uint64, 17), make([]uint64, 32), make([]uint64, 1<<16+1)} {
		if n, e := Leaf(p, 1); n != nil || e != api.Dim {
			t.Error(len(p), n, e)
		}
	}
}

// P6.1: two entries that part at each level, at each coordinate; whichever comes first makes the same.

func TestPairAtEachLevel(t *testing.T) {
	for _, k := range []int{1, 2, 3, 16} {
		for level := range 64 {
			for i := range k {
				p := slices.Repeat([]uint64{0xA5A5A5A5_5A5A5A5A}, k)
				q := slices.Clone(p)
				q[i] ^= 1 << level
				q[k-1] ^= 1<<level - 1 // and some of the bits below
				a, b := mustLeaf(t, 3, p...), mustLeaf(t, 4, q...)
				n := mustPair(t, a, b)
				checkNode(t, n, []api.Entry{{P: p, V: 3}, {P: q, V: 4}})
				if n.Kid(plainAddr(p, level)) != a || n.Kid(plainAddr(q, level)) != b {
					t.Fatal(k, level, i, "other kids")
				}
				if !reflect.DeepEqual(n, mustPair(t, b, a)) {
					t.Fatal(k, level, i, "the other way round it is another node")
				}
			}
		}
	}
}

// P6.1: of an entry and a node, and of two nodes, the kids are these very ones.

func TestPairOfNodes(t *testing.T) {
	low := []api.Entry{{P: []uint64{4, 0}, V: 10}, {P: []uint64{7, 3}, V: 20}}
	far := []api.Entry{{P: []uint64{0, 8}, V: 1}}
	high := []api.Entry{{P: []uint64{8, 8}, V: 7}, {P: []uint64{9, 8}, V: 9}, {P: []uint64{8, 9}, V: 0}}
	for _, x := range []struct {
		a, b         []api.Entry
		level        int
		addrA, addrB int
	}{{low, far, 3, 0, 1}, {far, high, 3, 1, 3}, {low, high, 3, 0, 3}} {
		a, b := mustMake(t, x.a), mustMake(t, x.b)
		n, back := mustPair(t, a, b), mustPair(t, b, a)
		if n.Level() != x.level || n.Kid(x.addrA) != a || n.Kid(x.addrB) != b || back.Kid(x.addrA) != a || back.Kid(x.addrB) != b {
			t.Error(x, n.Shape())
		}
		checkNode(t, n, slices.Concat(x.a, x.b))
		checkNode(t, back, slices.Concat(x.a, x.b))
	}
}

// P6.1: the lesser node lies within the greater one's cell, but for the level at which they part: it is just one above.

func TestPairJustAbove(t *testing.T) {
	for level := range 63 {
		bit := uint64(1) << level
		a := mustPair(t, mustLeaf(t, 1, 0), mustLeaf(t, 2, bit))
		b := mustPair(t, mustLeaf(t, 3, 2*bit), mustLeaf(t, 4, 3*bit))
		n := mustPair(t, a, b)
		checkNode(t, n, []api.Entry{{P: []uint64{0}, V: 1}, {P: []uint64{bit}, V: 2}, {P: []uint64{2 * bit}, V: 3}, {P: []uint64{3 * bit}, V: 4}})
		if n.Level() != level+1 || n.Kid(0) != a || n.Kid(1) != b {
			t.Error(level, n.Shape())
		}
	}
}

// P6.1, P6.2: kids at all addresses, one after the other, at levels at their ends and between.

func TestEachAddress(t *testing.T) {
	for k := 1; k <= 7; k++ {
		for _, level := range []int{0, 1, 31, 63} {
			var l []api.Entry
			var kids []*Node
			for i := range 1 << k {
				addr := (5*i + 1) % (1 << k) // odd, so that each address comes once
				x := api.Entry{P: pointAt(k, level, addr), V: uint64(1000 - addr)}
				l, kids = append(l, x), append(kids, mustLeaf(t, x.V, x.P...))
			}
			n := mustPair(t, kids[1], kids[0])
			for i := 2; i <= 1<<k; i++ {
				if k < 5 || i%7 == 0 || i == 1<<k {
					checkNode(t, n, l[:i])
				}
				if i < 1<<k {
					n = mustWith(t, n, kids[i])
				}
			}
			for i, x := range l {
				if n.Kid(plainAddr(x.P, level)) != kids[i] {
					t.Fatal(k, level, x.P, "another kid")
				}
			}
		}
	}
}

// pointAt is a point with an address at a level; all coordinates are the same elsewhere.
func pointAt(k, level, addr int) []uint64 {
	p := make([]uint64, k)
	for i := range p {
		bit := uint64(addr>>(k-1-i)) & 1
		p[i] = 0x5555555555555555&^(1<<level) | bit<<level
	}
	return p
}

// P6.1, P6.2: nodes of any entries; whatever came first, they are the same.

func TestAnyEntries(t *testing.T) {
	for k := 1; k <= 16; k++ {
		chance := steps(k)
		for _, level := range []int{0, 1, 2, 5, 30, 62, 63} {
			for _, most := range []int{1, 2, 3, 9, 40} {
				l := chanceEntries(&chance, k, level, most)
				n := mustMake(t, l)
				checkNode(t, n, l)
				for range 3 {
					if !reflect.DeepEqual(n, mustMake(t, shuffled(&chance, l))) {
						t.Fatal(l, "in another order are another node")
					}
				}
			}
		}
	}
}

// P6.1, P6.2: a kid in the place of another one: of the least and the greatest value, of a node, of an entry, of the very same.

func TestWithInThePlace(t *testing.T) {
	at := func(v uint64, p ...uint64) api.Entry { return api.Entry{P: p, V: v} }
	base := [][]api.Entry{{at(5, 0, 0)}, {at(1, 0, 4), at(8, 1, 5)}, {at(9, 4, 1)}}
	for _, kid := range [][]api.Entry{
		{at(6, 0, 0)}, {at(0, 0, 0)}, {at(99, 3, 3)}, {at(5, 0, 0)}, {at(2, 0, 0), at(3, 3, 3)},
		{at(2, 0, 4)}, {at(7, 3, 7)}, {at(3, 2, 4), at(4, 2, 5), at(greatest, 3, 4)}, {at(1, 0, 4), at(8, 1, 5)},
		{at(5, 4, 1)}, {at(9, 4, 1), at(9, 4, 2), at(9, 5, 1)}, {at(greatest, 7, 3)},
		{at(1, 4, 4)}, {at(3, 7, 7), at(12, 6, 7)},
	} {
		n := mustMake(t, slices.Concat(base...))
		k := mustMake(t, kid)
		out := mustWith(t, n, k)
		var want []api.Entry
		for _, l := range append(slices.Clone(base), kid) {
			if plainAddr(l[0].P, 2) != plainAddr(kid[0].P, 2) || &l[0] == &kid[0] {
				want = append(want, l...)
			}
		}
		checkNode(t, out, want)
		for addr := range 4 {
			if same := out.Kid(addr) == n.Kid(addr); addr != plainAddr(kid[0].P, 2) && !same {
				t.Error(kid, addr, "is another kid")
			}
		}
		if out.Kid(plainAddr(kid[0].P, 2)) != k {
			t.Error(kid, "isn't there")
		}
		checkNode(t, n, slices.Concat(base...))
		checkNode(t, mustWith(t, n, n.Kid(0)), slices.Concat(base...))
	}
}

// P6.1: a kid of the level just below, at level 0 and at level 63.

func TestWithLevels(t *testing.T) {
	one, two, three := mustLeaf(t, 1, 0), mustLeaf(t, 2, 1), mustLeaf(t, 3, 1<<63)
	bottom := mustPair(t, one, two)
	checkNode(t, mustWith(t, bottom, mustLeaf(t, 7, 1)), []api.Entry{{P: []uint64{0}, V: 1}, {P: []uint64{1}, V: 7}})
	top := mustPair(t, bottom, three)
	checkNode(t, top, []api.Entry{{P: []uint64{0}, V: 1}, {P: []uint64{1}, V: 2}, {P: []uint64{1 << 63}, V: 3}})
	below := mustPair(t, three, mustLeaf(t, 4, 3<<62))
	n := mustWith(t, top, below)
	checkNode(t, n, []api.Entry{{P: []uint64{0}, V: 1}, {P: []uint64{1}, V: 2}, {P: []uint64{1 << 63}, V: 3}, {P: []uint64{3 << 62}, V: 4}})
	if n.Level() != 63 || n.Kid(1) != below || below.Level() != 62 || n.Kid(0) != bottom {
		t.Error(n.Shape(), below.Shape())
	}
}

// P6.1: without a kid, until one is left: that is this very one, be it an entry or a node.

func TestWithout(t *testing.T) {
	for k := 1; k <= 6; k++ {
		chance := steps(100 + k)
		for range 20 {
			l := chanceEntries(&chance, k, 3, 2+chance.below(30))
			n := mustMake(t, l)
			for level := plainLevel(l); level >= 0; {
				places := n.Shape().Places
				addr := places[chance.below(len(places))]
				out := mustWithout(t, n, addr)
				left := slices.DeleteFunc(slices.Clone(l), func(x api.Entry) bool { return plainAddr(x.P, level) == addr })
				checkNode(t, n, l)
				checkNode(t, out, left)
				checkSameKids(t, n, out, places, addr)
				if len(places) == 2 {
					break
				}
				n, l = out, left
			}
		}
	}
}

// checkSameKids: out is n without the kid at addr; its kids, or, if one is left, itself, must be n's.
func checkSameKids(t *testing.T, n, out *Node, places []int, addr int) {
	t.Helper()
	for _, place := range places {
		if place == addr {
			continue
		}
		if len(places) == 2 && out != n.Kid(place) {
			t.Fatal(n.Shape(), "without", addr, "isn't the other kid")
		}
		if len(places) > 2 && out.Kid(place) != n.Kid(place) {
			t.Fatal(n.Shape(), "without", addr, "has another kid at", place)
		}
	}
}

func TestWithoutAndBack(t *testing.T) {
	for k := 2; k <= 7; k++ {
		chance := steps(k)
		l := chanceEntries(&chance, k, 9, 25)
		n := mustMake(t, l)
		for _, addr := range n.Shape().Places {
			out := mustWithout(t, n, addr)
			if out.Level() == n.Level() && !reflect.DeepEqual(mustWith(t, out, n.Kid(addr)), n) {
				t.Error(k, addr, "put back makes another node")
			}
		}
		checkNode(t, n, l)
	}
}

// P6.2: sums that go round at 2^64; the least and the greatest value come, go, and are there twice.

func TestSums(t *testing.T) {
	for _, x := range []struct {
		values []uint64
		want   api.Sums
	}{
		{[]uint64{greatest, 1}, api.Sums{Count: 2, Sum: 0, Min: 1, Max: greatest}},
		{[]uint64{greatest, greatest, greatest}, api.Sums{Count: 3, Sum: greatest - 2, Min: greatest, Max: greatest}},
		{[]uint64{0, 0}, api.Sums{Count: 2}},
		{[]uint64{1 << 63, 1 << 63, 5, 7}, api.Sums{Count: 4, Sum: 12, Min: 5, Max: 1 << 63}},
		{[]uint64{3, 3, 2, 9, 9, 2}, api.Sums{Count: 6, Sum: 28, Min: 2, Max: 9}},
	} {
		var l []api.Entry
		for i, v := range x.values {
			l = append(l, api.Entry{P: []uint64{0, 0, uint64(i)}, V: v})
		}
		n := mustMake(t, l)
		if n.Sums() != x.want {
			t.Error(x, n.Sums())
		}
		checkNode(t, n, l)
	}
}

func TestSumsOfChangedKids(t *testing.T) {
	values := []uint64{4, 0, greatest, 17, 1 << 63, 0, greatest, 6}
	var l []api.Entry
	for i, v := range values {
		l = append(l, api.Entry{P: pointAt(3, 7, i), V: v})
	}
	n := mustMake(t, l)
	for i := range l {
		less := slices.Delete(slices.Clone(l), i, i+1)
		checkNode(t, mustWithout(t, n, i), less)
		for _, v := range slices.Concat(values, []uint64{1, greatest - 1}) {
			x := api.Entry{P: l[i].P, V: v}
			checkNode(t, mustWith(t, n, mustLeaf(t, v, x.P...)), append(slices.Clone(less), x))
		}
	}
}

// P6.2: kids are kept densely at the very number at which slots are, and sparsely again.

func TestDense(t *testing.T) {
	// most is, of each K from 1 to 7, how many kids sparse nodes have at most.
	most := [8]int{0, 1, 2, 4, 8, 16, 32, 128}
	for k := 1; k <= 7; k++ {
		n := mustPair(t, mustLeaf(t, 0, pointAt(k, 0, 0)...), mustLeaf(t, 1, pointAt(k, 0, 1)...))
		nodes := []*Node{nil, nil, n}
		for addr := 2; addr < 1<<k; addr++ {
			n = mustWith(t, n, mustLeaf(t, uint64(addr), pointAt(k, 0, addr)...))
			nodes = append(nodes, n)
		}
		for count := 2; count <= 1<<k; count++ {
			if nodes[count].Shape().Dense != (count > most[k]) {
				t.Error(k, count, nodes[count].Shape())
			}
		}
		for count := 1 << k; count > 2; count-- {
			n = mustWithout(t, n, count-1)
			if !reflect.DeepEqual(n, nodes[count-1]) {
				t.Error(k, count-1, "are kept otherwise on the way back")
			}
		}
	}
}

// P6.1, P6.2: many kids, of 16 coordinates.

func TestManyKids(t *testing.T) {
	var l []api.Entry
	for i := range 3000 {
		l = append(l, api.Entry{P: pointAt(16, 40, i*40503%(1<<16)), V: uint64(i * i)})
	}
	n := mustMake(t, l)
	checkNode(t, n, l)
	for i := range 1500 {
		n = mustWithout(t, n, plainAddr(l[i].P, 40))
	}
	checkNode(t, n, l[1500:])
}

// P6.1: nodes from which others came stay as they were, however many come after.

func TestNodesStay(t *testing.T) {
	type version struct {
		n *Node
		l []api.Entry
	}
	const level = 20
	for k := 1; k <= 8; k++ {
		chance := steps(k)
		l := chanceEntries(&chance, k, level, 12)
		for plainLevel(l) != level {
			l = chanceEntries(&chance, k, level, 12)
		}
		versions := []version{{mustMake(t, l), l}}
		for range 200 {
			from := versions[max(0, len(versions)-1-chance.below(4))]
			places := from.n.Shape().Places
			addr := chance.below(1 << k)
			left := slices.DeleteFunc(slices.Clone(from.l), func(x api.Entry) bool { return plainAddr(x.P, level) == addr })
			if chance.below(2) == 0 && len(places) > 2 && slices.Contains(places, addr) {
				versions = append(versions, version{mustWithout(t, from.n, addr), left})
				continue
			}
			kid := []api.Entry{{P: aPointBelow(&chance, l[0].P, level, addr), V: uint64(chance.below(1000))}}
			versions = append(versions, version{mustWith(t, from.n, mustMake(t, kid)), slices.Concat(left, kid)})
		}
		for _, v := range versions {
			checkNode(t, v.n, v.l)
		}
	}
}

// aPointBelow is p above a level, and has an address there.
func aPointBelow(chance *steps, p []uint64, level, addr int) []uint64 {
	q := plainCutPoint(p, level)
	for i := range q {
		q[i] |= uint64(addr>>(len(q)-1-i)&1)<<level | uint64(chance.below(1<<level))
	}
	return q
}

// P6.1, P6.2: what is handed in isn't kept, and what is told is the caller's.

func TestListsAreTheCallers(t *testing.T) {
	p := []uint64{4, 0, 9}
	n := mustLeaf(t, 7, p...)
	p[0], p[1], p[2] = 1, 1, 1
	entry := api.Entry{P: []uint64{4, 0, 9}, V: 7}
	checkNode(t, n, []api.Entry{entry})
	l := []api.Entry{entry, {P: []uint64{5, 0, 9}, V: 8}, {P: []uint64{4, 1, 9}, V: 3}}
	both := mustMake(t, l)
	small := mustWithout(t, both, 3)
	for range 2 {
		for _, x := range []*Node{n, both, small} {
			spoil(x)
		}
	}
	checkNode(t, n, []api.Entry{entry})
	checkNode(t, both, l)
	checkNode(t, small, l[:2])
}

// spoil changes all that a node tells.
func spoil(n *Node) {
	prefix, shape := n.Prefix(), n.Shape()
	x, _ := n.Entry()
	for _, p := range [][]uint64{prefix, shape.Prefix, x.P} {
		for i := range p {
			p[i] = 77
		}
		_ = append(p, 78)
	}
	for i := range shape.Places {
		shape.Places[i] = 79
	}
	_ = append(shape.Places, 80)
}

// P6.1, P6.2: nil nodes.

func TestNil(t *testing.T) {
	var n *Node
	leaf := mustLeaf(t, 1, 4, 0)
	pair := mustPair(t, leaf, mustLeaf(t, 2, 5, 0))
	if n.K() != 0 || n.Level() != -1 || len(n.Prefix()) != 0 || n.Sums() != (api.Sums{}) {
		t.Error(n.K(), n.Level(), n.Prefix(), n.Sums())
	}
	if s := n.Shape(); s.Level != 0 || len(s.Prefix) != 0 || len(s.Places) != 0 || s.Dense || s.V != 0 {
		t.Error(s)
	}
	checkNothingThere(t, n)
	for _, other := range []*Node{nil, leaf, pair, new(Node)} {
		checkRefused(t, api.Nil)(n.With(other))
		checkRefused(t, api.Nil)(other.With(n))
		checkRefused(t, api.Nil)(Pair(n, other))
		checkRefused(t, api.Nil)(Pair(other, n))
	}
	for _, addr := range someAddrs(2, nil) {
		checkRefused(t, api.Nil)(n.Without(addr))
	}
}

// checkNothingThere: a node without entry and kids, that covers nothing.
func checkNothingThere(t *testing.T, n *Node) {
	t.Helper()
	if x, ok := n.Entry(); ok || x.P != nil || x.V != 0 {
		t.Error(x, ok)
	}
	for _, addr := range someAddrs(2, nil) {
		from, a := n.From(addr)
		upTo, b := n.UpTo(addr)
		if n.Kid(addr) != nil || from != 0 || a != nil || upTo != 0 || b != nil {
			t.Error(addr, n.Kid(addr), from, a, upTo, b)
		}
	}
	for _, p := range [][]uint64{nil, {}, {0}, {0, 0}, make([]uint64, 17)} {
		if n.Covers(p) {
			t.Error("covers", p)
		}
	}
}

// checkRefused takes what a call answered: no node, and that code.
func checkRefused(t *testing.T, want api.Code) func(*Node, api.Code) {
	return func(n *Node, e api.Code) {
		t.Helper()
		if n != nil || e != want {
			t.Error("told", n.Shape(), e, "not", want)
		}
	}
}

// P6.1, P6.2: a node that no call made is no kid, has none, and nothing panics.

func TestNotMade(t *testing.T) {
	n := new(Node)
	leaf := mustLeaf(t, 1, 4, 0)
	pair := mustPair(t, leaf, mustLeaf(t, 2, 5, 0))
	if n.K() != 0 || len(n.Prefix()) != 0 || n.Sums() != (api.Sums{}) || len(n.Shape().Places) != 0 || n.Shape().Dense {
		t.Error(n.K(), n.Prefix(), n.Sums(), n.Shape())
	}
	checkNothingThere(t, n)
	for _, other := range []*Node{n, leaf, pair} {
		checkRefused(t, api.Dim)(Pair(n, other))
		checkRefused(t, api.Dim)(Pair(other, n))
		checkRefused(t, api.Arg)(n.With(other))
	}
	checkRefused(t, api.Arg)(leaf.With(n))
	checkRefused(t, api.Dim)(pair.With(n))
	for _, addr := range someAddrs(2, nil) {
		checkRefused(t, api.Arg)(n.Without(addr))
	}
}

// P6.1: wrong inputs, with the first error that holds; they change nothing.

func TestPairWrong(t *testing.T) {
	l := []api.Entry{{P: []uint64{4, 0}, V: 10}, {P: []uint64{7, 3}, V: 20}}
	a := mustMake(t, l)
	inner := mustPair(t, mustLeaf(t, 1, 4, 2), mustLeaf(t, 1, 5, 3))
	for _, x := range []struct {
		other *Node
		want  api.Code
	}{
		{nil, api.Nil},
		{mustLeaf(t, 1, 4), api.Dim},
		{mustLeaf(t, 1, 4, 0, 0), api.Dim},
		{mustPair(t, mustLeaf(t, 1, 4), mustLeaf(t, 1, 9)), api.Dim},
		{a, api.Arg},
		{a.Kid(0), api.Arg},
		{mustLeaf(t, 10, 4, 0), api.Arg},
		{mustLeaf(t, 1, 6, 1), api.Arg},
		{inner, api.Arg},
		{mustPair(t, inner, mustLeaf(t, 1, 6, 0)), api.Arg},
		{mustPair(t, a, mustLeaf(t, 1, 0, 8)), api.Arg},
		{mustPair(t, mustLeaf(t, 1, 1, 7), mustLeaf(t, 1, 6, 1)), api.Arg}, // it covers a, though it has not that kid
	} {
		checkRefused(t, x.want)(Pair(a, x.other))
		checkRefused(t, x.want)(Pair(x.other, a))
	}
	checkNode(t, a, l)
	leaf := mustLeaf(t, 1, greatest)
	checkRefused(t, api.Arg)(Pair(leaf, leaf))
	checkRefused(t, api.Arg)(Pair(leaf, mustLeaf(t, 2, greatest)))
}

func TestWithWrong(t *testing.T) {
	l := []api.Entry{{P: []uint64{4, 0}, V: 10}, {P: []uint64{5, 2}, V: 5}, {P: []uint64{7, 3}, V: 20}}
	n, leaf := mustMake(t, l), mustLeaf(t, 10, 4, 0)
	for _, x := range []struct {
		n, kid *Node
		want   api.Code
	}{
		{nil, leaf, api.Nil},
		{n, nil, api.Nil},
		{leaf, nil, api.Nil},
		{leaf, leaf, api.Arg},
		{leaf, mustLeaf(t, 1, 4, 1), api.Arg},
		{leaf, n, api.Arg},
		{leaf, mustLeaf(t, 1, 4), api.Arg}, // ahead of Dim
		{n, mustLeaf(t, 1, 4), api.Dim},
		{n, mustLeaf(t, 1, 4, 0, 0), api.Dim},
		{n, mustPair(t, mustLeaf(t, 1, 4), mustLeaf(t, 1, 5)), api.Dim},
		{n, mustLeaf(t, 1, 8, 0), api.Arg},
		{n, mustLeaf(t, 1, 4, 4), api.Arg},
		{n, mustLeaf(t, 1, 0, 0), api.Arg},
		{n, mustPair(t, mustLeaf(t, 1, 0, 0), mustLeaf(t, 1, 1, 1)), api.Arg}, // of a lesser level, not covered
		{n, n, api.Arg},
		{n, mustPair(t, mustLeaf(t, 1, 4, 1), mustLeaf(t, 1, 6, 0)), api.Arg}, // covered, of the same level
		{n, mustPair(t, leaf, mustLeaf(t, 1, 0, 8)), api.Arg},
	} {
		checkRefused(t, x.want)(x.n.With(x.kid))
	}
	checkNode(t, n, l)
	// The greater one's prefix is covered, as it is cut at 0 in any case.
	low := mustPair(t, mustLeaf(t, 1, 0), mustLeaf(t, 2, 1))
	high := mustPair(t, low, mustLeaf(t, 3, 1<<63))
	checkRefused(t, api.Arg)(low.With(high))
}

func TestWithoutWrong(t *testing.T) {
	for k := 1; k <= 16; k++ {
		leaf := mustLeaf(t, 1, pointAt(k, 5, 0)...)
		n := mustPair(t, leaf, mustLeaf(t, 2, pointAt(k, 5, 1<<k-1)...))
		for _, addr := range someAddrs(k, nil) {
			checkRefused(t, api.Arg)(leaf.Without(addr))
			if addr < 0 || addr >= 1<<k {
				checkRefused(t, api.Arg)(n.Without(addr))
			} else if addr > 0 && addr < 1<<k-1 {
				checkRefused(t, api.None)(n.Without(addr))
			}
		}
		checkNode(t, n, []api.Entry{{P: pointAt(k, 5, 0), V: 1}, {P: pointAt(k, 5, 1<<k-1), V: 2}})
	}
}
