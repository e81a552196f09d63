package near

import (
	"math"
	"reflect"
	"slices"
	"testing"

	"pantile/api"
	"pantile/box"
	"pantile/node"
	"pantile/tree"
	"pantile/window"
)

// chance makes numbers that look like chance, and are the same in each run.
type chance uint64

func (n *chance) below(most int) int {
	*n = *n*6364136223846793005 + 1442695040888963407
	return int(uint64(*n)>>33) % most
}

// point is a point whose bits above a level are those of all others.
func (n *chance) point(k, level int) []uint64 {
	p := all(k, 0xA5A5A5A5A5A5A5A5)
	for i := range p {
		for range 1 + n.below(2) {
			p[i] ^= 1 << n.below(level+1)
		}
	}
	return p
}

// grid is a point of small coordinates.
func (n *chance) grid(k, most int) []uint64 {
	p := make([]uint64, k)
	for i := range p {
		p[i] = uint64(n.below(most))
	}
	return p
}

// entries are up to most entries with unlike points, that part at a level, or below, in z-order.
func (n *chance) entries(k, level, most int) []api.Entry {
	var l []api.Entry
	for range most {
		l = append(l, at(n.value(), n.point(k, level)...))
	}
	return inOrder(l)
}

// value is any value, so that an order by values would be seen.
func (n *chance) value() uint64 {
	return uint64(n.below(1<<20)) << n.below(45)
}

// at is an entry.
func at(v uint64, p ...uint64) api.Entry {
	return api.Entry{P: p, V: v}
}

// all has the same coordinate K times.
func all(k int, c uint64) []uint64 {
	return slices.Repeat([]uint64{c}, k)
}

// ones are entries of one coordinate, each with another value.
func ones(coordinates ...uint64) []api.Entry {
	var l []api.Entry
	for i, c := range coordinates {
		l = append(l, at(uint64(100-i), c))
	}
	return inOrder(l)
}

// Plain readings: bit by bit, and entry by entry.

// plainCmp goes down from the highest level to the first one at which the addresses aren't the same.
func plainCmp(p, q []uint64) int {
	for level := 63; level >= 0; level-- {
		for i, c := range p {
			if a, b := c/(1<<level)%2, q[i]/(1<<level)%2; a != b {
				return int(a) - int(b)
			}
		}
	}
	return 0
}

// inOrder are the entries in z-order, one of each point.
func inOrder(l []api.Entry) []api.Entry {
	slices.SortStableFunc(l, func(x, y api.Entry) int { return plainCmp(x.P, y.P) })
	return slices.CompactFunc(l, func(x, y api.Entry) bool { return slices.Equal(x.P, y.P) })
}

// plainFar is the greatest of the differences of two points' coordinates.
func plainFar(p, q []uint64) uint64 {
	var far uint64
	for i, c := range p {
		if c > q[i] && c-q[i] > far {
			far = c - q[i]
		}
		if c < q[i] && q[i]-c > far {
			far = q[i] - c
		}
	}
	return far
}

// plainNear are all entries, the nearest to p first; of one distance they are as they were, in z-order.
func plainNear(l []api.Entry, p []uint64) []api.Entry {
	near := slices.Clone(l)
	slices.SortStableFunc(near, func(x, y api.Entry) int {
		a, b := plainFar(p, x.P), plainFar(p, y.P)
		if a < b {
			return -1
		}
		if a > b {
			return 1
		}
		return 0
	})
	return near
}

// plainWithin are the first of these entries, as far as they aren't too far.
func plainWithin(near []api.Entry, p []uint64, far uint64) []api.Entry {
	n := 0
	for n < len(near) && plainFar(p, near[n].P) <= far {
		n++
	}
	return near[:n]
}

func sameEntry(x, y api.Entry) bool {
	return x.V == y.V && slices.Equal(x.P, y.P)
}

// mustMake puts entries one after the other.
func mustMake(t *testing.T, k int, l []api.Entry) *tree.Tree {
	t.Helper()
	x, e := tree.New(k)
	if e != api.Fine {
		t.Fatal("new", k, e)
	}
	for _, entry := range l {
		if x, e = x.Put(entry.P, entry.V); e != api.Fine {
			t.Fatal("put", entry, e)
		}
	}
	return x
}

// Checks: each asks a tree with the entries l, in z-order.

// checkNear asks all that can be asked of a point.
func checkNear(t *testing.T, x *tree.Tree, l []api.Entry, p []uint64) {
	t.Helper()
	root, asked := x.Root(), slices.Clone(p)
	near := plainNear(l, p)
	checkFar(t, x, near, p)
	for _, n := range numbersFor(len(l)) {
		checkTo(t, x, near, p, n)
	}
	for _, far := range distancesFor(near, p) {
		checkWithin(t, x, near, p, far)
	}
	checkAlike(t, x, l, p, near)
	if x.Root() != root || !slices.Equal(asked, p) {
		t.Fatal("what was handed in has become another one", asked, p)
	}
}

func checkFar(t *testing.T, x *tree.Tree, near []api.Entry, p []uint64) {
	t.Helper()
	var want uint64
	if len(near) > 0 {
		want = plainFar(p, near[0].P)
	}
	if far, is, e := Far(x, p); e != api.Fine || is != (len(near) > 0) || far != want {
		t.Fatal("far", p, "told", far, is, e, "not", want)
	}
}

func checkTo(t *testing.T, x *tree.Tree, near []api.Entry, p []uint64, n int) {
	t.Helper()
	want := near[:min(max(n, 0), len(near))]
	if got, e := To(x, p, n); e != api.Fine || !slices.EqualFunc(got, want, sameEntry) {
		t.Fatal("to", p, n, "told", got, e, "not", want)
	}
}

func checkWithin(t *testing.T, x *tree.Tree, near []api.Entry, p []uint64, far uint64) {
	t.Helper()
	want := plainWithin(near, p, far)
	got, e := Within(x, p, far)
	if e != api.Fine || !slices.EqualFunc(got, want, sameEntry) {
		t.Fatal("within", far, "of", p, "told", got, e, "not", want)
	}
}

// checkAlike: P11.2, and what lies in the box around the point is what is within that distance.
func checkAlike(t *testing.T, x *tree.Tree, l []api.Entry, p []uint64, near []api.Entry) {
	t.Helper()
	if len(l) == 0 {
		return
	}
	n := 1 + len(l)/2
	some, _ := To(x, p, n)
	far := plainFar(p, near[n-1].P)
	within, _ := Within(x, p, far)
	if len(within) < n || !slices.EqualFunc(some, within[:n], sameEntry) {
		t.Fatal("within", far, "of", p, "isn't what is told of the nearest", n, within, some)
	}
	around, _ := box.Around(p, far)
	found, _ := window.Find(x, around)
	want := slices.DeleteFunc(slices.Clone(l), func(entry api.Entry) bool { return plainFar(p, entry.P) > far })
	if len(within) != len(found) || !slices.EqualFunc(found, want, sameEntry) {
		t.Fatal("within", far, "of", p, "isn't what lies in the box", within, found)
	}
}

// numbersFor are numbers of entries that can be asked for: none, one, all, more, and those at their ends.
func numbersFor(n int) []int {
	return []int{math.MinInt, -n, -1, 0, 1, 2, n / 3, n / 2, n - 1, n, n + 1, 2 * n, 1 << 32, math.MaxInt}
}

// distancesFor are distances at both ends, and that of some entries, with those just below and above.
func distancesFor(near []api.Entry, p []uint64) []uint64 {
	list := []uint64{0, 1, 1<<63 - 1, 1 << 63, greatest - 1, greatest}
	for i := 0; i < len(near); i += 1 + len(near)/5 {
		far := plainFar(p, near[i].P)
		list = append(list, far)
		if far > 0 {
			list = append(list, far-1)
		}
		if far < greatest {
			list = append(list, far+1)
		}
	}
	return list
}

// pointsFor are some entries' points, those beside them and between two of them, and those at both ends.
func pointsFor(n *chance, k int, l []api.Entry) [][]uint64 {
	points := [][]uint64{all(k, 0), all(k, 1<<63-1), all(k, 1<<63), all(k, greatest)}
	for i := 0; i < len(l); i += 1 + len(l)/6 {
		p, other := l[i].P, l[n.below(len(l))].P
		up, down, between := slices.Clone(p), slices.Clone(p), slices.Clone(p)
		up[n.below(k)]++
		down[n.below(k)]--
		for j, c := range other {
			between[j] = between[j]/2 + c/2
		}
		points = append(points, slices.Clone(p), up, down, between)
	}
	for range 4 {
		points = append(points, n.point(k, n.below(64)))
	}
	return points
}

// checkPoints asks for each of some points.
func checkPoints(t *testing.T, x *tree.Tree, l []api.Entry, points [][]uint64) {
	t.Helper()
	for _, p := range points {
		checkNear(t, x, l, p)
	}
}

// P11.1: the chapter's example.

func TestExample(t *testing.T) {
	x := mustMake(t, 2, []api.Entry{at(1, 7, 3), at(2, 0, 8), at(3, 4, 0)})
	p := []uint64{5, 5}
	want := []api.Entry{at(1, 7, 3), at(3, 4, 0), at(2, 0, 8)}
	if got, e := To(x, p, 3); e != api.Fine || !slices.EqualFunc(got, want, sameEntry) {
		t.Error(got, e)
	}
	if got, e := Within(x, p, 2); e != api.Fine || !slices.EqualFunc(got, want[:1], sameEntry) {
		t.Error(got, e)
	}
	if got, e := Within(x, p, 4); e != api.Fine || len(got) != 1 {
		t.Error(got, e)
	}
	if got, e := Within(x, p, 5); e != api.Fine || !slices.EqualFunc(got, want, sameEntry) {
		t.Error(got, e)
	}
	if far, is, e := Far(x, p); far != 2 || !is || e != api.Fine {
		t.Error(far, is, e)
	}
	checkNear(t, x, inOrder(slices.Clone(want)), p)
}

// P11.1, P11.2: all lists of points of three bits, asked for all of these and some behind them.

func TestAllOfThreeBits(t *testing.T) {
	for set := range 1 << 8 {
		var l []api.Entry
		for c := range uint64(8) {
			if set>>c&1 == 1 {
				l = append(l, at(c*7%5, c))
			}
		}
		x := mustMake(t, 1, l)
		for c := range uint64(10) {
			near := plainNear(l, []uint64{c})
			checkFar(t, x, near, []uint64{c})
			for n := -1; n < 10; n++ {
				checkTo(t, x, near, []uint64{c}, n)
			}
			for far := range uint64(11) {
				checkWithin(t, x, near, []uint64{c}, far)
			}
		}
	}
}

// P11.1, P11.2: lists of points of two bits, twice: most of the entries are equally far.

func TestSquares(t *testing.T) {
	n := chance(5)
	for range 60 {
		var l []api.Entry
		for i := range uint64(16) {
			if n.below(3) > 0 {
				l = append(l, at(n.value(), i/4, i%4))
			}
		}
		l = inOrder(l)
		x := mustMake(t, 2, l)
		for i := range uint64(25) {
			p := []uint64{i / 5, i % 5}
			near := plainNear(l, p)
			for most := range 18 {
				checkTo(t, x, near, p, most)
			}
			for far := range uint64(6) {
				checkWithin(t, x, near, p, far)
			}
			checkFar(t, x, near, p)
		}
	}
}

// P11.1, P11.2: any entries of each K, that part at levels at their ends and between.

func TestAnyEntries(t *testing.T) {
	for k := 1; k <= 16; k++ {
		n := chance(k)
		for _, level := range []int{0, 1, 5, 31, 62, 63} {
			l := n.entries(k, level, 1+n.below(30))
			x := mustMake(t, k, l)
			checkPoints(t, x, l, pointsFor(&n, k, l))
		}
	}
}

// P11.1: trees without entries, and with one.

func TestNoneAndOne(t *testing.T) {
	for k := 1; k <= 16; k++ {
		n := chance(50 + k)
		checkPoints(t, mustMake(t, k, nil), nil, pointsFor(&n, k, nil))
		for _, c := range []uint64{0, 1, 5, 1<<63 - 1, 1 << 63, greatest} {
			l := []api.Entry{at(c, all(k, c)...)}
			checkPoints(t, mustMake(t, k, l), l, pointsFor(&n, k, l))
		}
	}
}

// P11.1, P11.2: a node at each level, asked for points at all of its ends.

func TestLongWay(t *testing.T) {
	for _, k := range []int{1, 2, 16} {
		for _, ground := range []uint64{0, greatest, 0x5555555555555555} {
			l := []api.Entry{at(99, all(k, ground)...)}
			for level := range 64 {
				q := all(k, ground)
				q[level%k] ^= 1 << level
				l = append(l, at(uint64(level*level%23), q...))
			}
			l = inOrder(l)
			x := mustMake(t, k, l)
			if root := x.Root().Level(); root != 63 || len(x.Shapes()) != 129 {
				t.Fatal(k, ground, root)
			}
			n := chance(20 + k)
			checkPoints(t, x, l, pointsFor(&n, k, l))
			for level := range 64 {
				p := all(k, ground)
				p[n.below(k)] ^= 1<<level - 1
				checkNear(t, x, l, p)
			}
		}
	}
}

// P11.1, P11.2: nodes with kids at many addresses, kept densely and sparsely.

func TestManyKids(t *testing.T) {
	for _, k := range []int{1, 2, 3, 6, 7, 11, 16} {
		n := chance(400 + k)
		for _, level := range []int{0, 40, 63} {
			var l []api.Entry
			for i := range min(1<<k, 300) {
				addr := i * ((1 << k) / min(1<<k, 300))
				p := make([]uint64, k)
				for j := range p {
					p[j] = uint64(addr>>(k-1-j)&1) << level
				}
				l = append(l, at(n.value(), p...))
			}
			l = inOrder(l)
			x := mustMake(t, k, l)
			checkPoints(t, x, l, pointsFor(&n, k, l))
		}
	}
}

// P11.1: entries equally far: all corners around a point, which stand in nodes that are first met in another order.

func TestCorners(t *testing.T) {
	for k := 1; k <= 8; k++ {
		for _, c := range []uint64{8, 1 << 20, 0x5555555555555555, 1 << 63} {
			for _, d := range []uint64{1, 3, 5, 8} {
				n := chance(uint64(k) + c + d)
				var l []api.Entry
				for corner := range 1 << k {
					p := all(k, c)
					for j := range p {
						if corner>>j&1 == 1 {
							p[j] += d
						} else {
							p[j] -= d
						}
					}
					l = append(l, at(n.value(), p...))
				}
				l = inOrder(l)
				x := mustMake(t, k, l)
				near := plainNear(l, all(k, c))
				if len(l) != 1<<k || !slices.EqualFunc(near, l, sameEntry) {
					t.Fatal(k, c, d, "the corners aren't equally far")
				}
				checkNear(t, x, l, all(k, c))
				for most := range min(1<<k+2, 20) {
					checkTo(t, x, near, all(k, c), most)
				}
				beside := all(k, c)
				beside[0]++
				checkNear(t, x, l, beside)
			}
		}
	}
}

// P11.1: one distance by unlike coordinates, some of them in a node whose cell is nearer than all that it has.

func TestEquallyFar(t *testing.T) {
	for _, c := range []struct {
		l    []api.Entry
		p    []uint64
		want []uint64 // the values
	}{
		// The node of (0, 4) and (3, 7) begins at 1, but its entries are at 4; that of the others is behind it.
		{[]api.Entry{at(1, 0, 4), at(2, 3, 7), at(3, 8, 4), at(4, 4, 8)}, []uint64{4, 4}, []uint64{2, 1, 4, 3}},
		// Both are at 5: by their addresses at the level 3 the second one's is the lesser.
		{[]api.Entry{at(1, 10, 5), at(2, 5, 10)}, []uint64{5, 5}, []uint64{2, 1}},
		{[]api.Entry{at(1, 10, 5), at(2, 0, 5), at(3, 5, 10), at(4, 5, 0), at(5, 10, 10), at(6, 0, 0)}, []uint64{5, 5}, []uint64{6, 2, 4, 3, 1, 5}},
		// The last one in z-order is nearer than all others.
		{[]api.Entry{at(1, 0, 0), at(2, 7, 7), at(3, 8, 8)}, []uint64{8, 8}, []uint64{3, 2, 1}},
		// (7, 7) and (8, 8) touch at a corner of all cells.
		{[]api.Entry{at(1, 8, 8), at(2, 7, 7), at(3, 7, 8), at(4, 8, 7)}, []uint64{8, 8}, []uint64{1, 2, 3, 4}},
		{[]api.Entry{at(1, 2, 0, 0), at(2, 0, 2, 0), at(3, 0, 0, 2), at(4, 2, 2, 2), at(5, 1, 1, 1)}, []uint64{0, 0, 0}, []uint64{5, 3, 2, 1, 4}},
	} {
		l := inOrder(slices.Clone(c.l))
		x := mustMake(t, len(c.p), l)
		var got []uint64
		near, e := To(x, c.p, len(l))
		for _, entry := range near {
			got = append(got, entry.V)
		}
		if e != api.Fine || !slices.Equal(got, c.want) {
			t.Error(c.l, c.p, "told", got, e, "not", c.want)
		}
		checkNear(t, x, l, c.p)
	}
}

// P11.1: no value and no order of puts changes what is nearer.

func TestValuesAndOrder(t *testing.T) {
	points := []uint64{2, 3, 5, 7, 11, 13}
	up, down := ones(points...), ones(points...)
	for i := range up {
		up[i].V = uint64(i)
		down[i].V = greatest - uint64(i)
	}
	for c := range uint64(16) {
		p := []uint64{c}
		checkNear(t, mustMake(t, 1, up), up, p)
		checkNear(t, mustMake(t, 1, down), down, p)
		back := slices.Clone(up)
		slices.Reverse(back)
		checkNear(t, mustMake(t, 1, back), up, p)
	}
}

// P11.1: distances that are too great for a coordinate, at each end, and the greatest one of all.

func TestGreatDistances(t *testing.T) {
	l := ones(0, 1, 7, 1<<63-1, 1<<63, greatest-7, greatest-1, greatest)
	x := mustMake(t, 1, l)
	for _, c := range []uint64{0, 1, 3, 1<<63 - 1, 1 << 63, greatest - 3, greatest - 1, greatest} {
		near := plainNear(l, []uint64{c})
		checkNear(t, x, l, []uint64{c})
		for _, far := range []uint64{c, c + 1, c - 1, greatest - c, greatest - c - 1, greatest - c + 1, 1 << 62} {
			checkWithin(t, x, near, []uint64{c}, far)
		}
	}
	for k := 1; k <= 16; k++ {
		for _, c := range []struct{ p, q []uint64 }{
			{all(k, 0), all(k, greatest)},
			{all(k, greatest), all(k, 0)},
		} {
			x := mustMake(t, k, []api.Entry{{P: c.q, V: 4}})
			if far, is, e := Far(x, c.p); far != greatest || !is || e != api.Fine {
				t.Error(k, far, is, e)
			}
			if l, e := Within(x, c.p, greatest-1); len(l) != 0 || e != api.Fine {
				t.Error(k, l, e)
			}
			if l, e := Within(x, c.p, greatest); len(l) != 1 || e != api.Fine {
				t.Error(k, l, e)
			}
			if l, e := To(x, c.p, 1); len(l) != 1 || e != api.Fine {
				t.Error(k, l, e)
			}
			// One coordinate alone is as far as all of them.
			last := slices.Clone(c.p)
			last[k-1] = c.q[k-1]
			both := inOrder([]api.Entry{{P: last, V: 1}, {P: c.q, V: 2}})
			checkNear(t, mustMake(t, k, both), both, c.p)
		}
	}
}

// P11.1: a distance of 0 is that of an entry at the point itself, alone.

func TestAtThePoint(t *testing.T) {
	for k := 1; k <= 16; k++ {
		n := chance(70 + k)
		l := n.entries(k, 3, 40)
		x := mustMake(t, k, l)
		for _, entry := range l {
			if far, is, e := Far(x, entry.P); far != 0 || !is || e != api.Fine {
				t.Error(k, entry, far, is, e)
			}
			for _, ask := range []func() ([]api.Entry, api.Code){
				func() ([]api.Entry, api.Code) { return To(x, entry.P, 1) },
				func() ([]api.Entry, api.Code) { return Within(x, entry.P, 0) },
			} {
				if got, e := ask(); e != api.Fine || len(got) != 1 || !sameEntry(got[0], entry) {
					t.Error(k, entry, got, e)
				}
			}
		}
		y, _ := x.Del(l[0].P)
		if got, e := Within(y, l[0].P, 0); len(got) != 0 || e != api.Fine {
			t.Error(k, got, e)
		}
		checkNear(t, y, l[1:], l[0].P)
		checkNear(t, x, l, l[0].P)
	}
}

// Wrong inputs: what is refused, with the first error that holds.

// checkRefused asks all calls, and nothing but the code may be told.
func checkRefused(t *testing.T, x *tree.Tree, p []uint64, want api.Code) {
	t.Helper()
	for _, n := range []int{math.MinInt, -1, 0, 1, math.MaxInt} {
		if l, e := To(x, p, n); len(l) != 0 || e != want {
			t.Error("to", p, n, l, e)
		}
	}
	for _, far := range []uint64{0, 1, greatest} {
		if l, e := Within(x, p, far); len(l) != 0 || e != want {
			t.Error("within", p, far, l, e)
		}
	}
	if far, is, e := Far(x, p); far != 0 || is || e != want {
		t.Error("far", p, far, is, e)
	}
}

func TestWrongPoints(t *testing.T) {
	for k := 1; k <= 16; k++ {
		for _, l := range [][]api.Entry{nil, {at(7, all(k, 0)...)}, {at(7, all(k, 0)...), at(8, all(k, greatest)...)}} {
			x := mustMake(t, k, l)
			checkRefused(t, x, nil, api.Dim)
			for _, other := range []int{0, 1, 2, k - 1, k + 1, 15, 16, 17, 32, 1<<16 + k} {
				if other != k {
					checkRefused(t, x, all(other, 0), api.Dim)
					checkRefused(t, x, all(other, greatest), api.Dim)
				}
			}
			checkPoints(t, x, l, [][]uint64{all(k, 0), all(k, 5), all(k, greatest)})
		}
	}
}

func TestNil(t *testing.T) {
	// Nil comes ahead of Dim.
	for _, p := range [][]uint64{nil, {}, {0}, {0, 1}, all(16, 0), all(17, 0)} {
		checkRefused(t, nil, p, api.Nil)
		checkRefused(t, new(tree.Tree), p, api.Dim)
	}
}

// What is too far, or behind what was asked for, isn't gone into.

func TestWhatIsLeftShut(t *testing.T) {
	var l []api.Entry
	for i := range uint64(4096) {
		l = append(l, at(i, i/64, i%64))
	}
	x := mustMake(t, 2, inOrder(l))
	for _, c := range []struct {
		most uint64
		stop int
	}{{greatest, 1}, {greatest, 9}, {2, 4096}, {0, 4096}} {
		met, left := 0, 0
		s := search{p: []uint64{21, 42}, most: c.most}
		s.meet = func(api.Entry, uint64) bool {
			met++
			left = s.Len()
			return met < c.stop
		}
		s.through(x.Root())
		if met == 0 || met+left > 99 {
			t.Error(c.most, c.stop, "has met", met, "with", left, "left")
		}
	}
}

// R4: trees stay as they are, and any node of one can be a tree's root.

func TestVersionsStay(t *testing.T) {
	n := chance(11)
	l := n.entries(3, 9, 40)
	x := mustMake(t, 3, l)
	shapes := x.Shapes()
	for _, addr := range x.Root().Shape().Places {
		kid, e := tree.Of(3, x.Root().Kid(addr))
		if e != api.Fine {
			t.Fatal(e)
		}
		part := slices.DeleteFunc(slices.Clone(l), func(entry api.Entry) bool { return !covers(kid.Root(), entry.P) })
		checkPoints(t, kid, part, pointsFor(&n, 3, l))
	}
	if !reflect.DeepEqual(shapes, x.Shapes()) {
		t.Error("the tree has become another one")
	}
}

func covers(n *node.Node, p []uint64) bool {
	cell, _ := box.Cell(n.Prefix(), n.Level())
	in, _ := box.In(cell, p)
	return in
}

// R4: what is handed in isn't kept or changed, and what is told is the caller's.

func TestListsAreTheCallers(t *testing.T) {
	l := []api.Entry{at(3, 4, 0), at(1, 7, 3), at(2, 0, 8)}
	x := mustMake(t, 2, l)
	p := []uint64{5, 5, 77}
	near, _ := To(x, p[:2], 3)
	within, _ := Within(x, p[:2], 9)
	Far(x, p[:2])
	if !slices.Equal(p, []uint64{5, 5, 77}) || !slices.EqualFunc(near, within, sameEntry) {
		t.Error(p, near, within)
	}
	clear(p)
	for _, entry := range near {
		clear(entry.P)
		_ = append(entry.P, 1)
	}
	clear(near)
	want := plainNear(l, []uint64{5, 5})
	if !slices.EqualFunc(within, want, sameEntry) {
		t.Error("two answers share what they have", within)
	}
	checkPoints(t, x, l, [][]uint64{{5, 5}, {0, 0}, {7, 3}})
}

// P11.1, P11.2: many entries, some of them equally far.

func TestManyEntries(t *testing.T) {
	for _, k := range []int{1, 2, 3, 16} {
		for _, side := range []int{50, 1 << 12} {
			n := chance(300 + k + side)
			var l []api.Entry
			for range 2000 {
				l = append(l, at(n.value(), n.grid(k, side)...))
			}
			l = inOrder(l)
			x := mustMake(t, k, l)
			for range 5 {
				checkNear(t, x, l, n.grid(k, side+side/4))
			}
			checkNear(t, x, l, all(k, greatest))
		}
	}
}
