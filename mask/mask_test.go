package mask

import (
	"math"
	"slices"
	"testing"

	"pantile/api"
	"pantile/box"
	"pantile/zbits"
)

const most = math.MaxUint64

// same makes a point of k like coordinates.
func same(k int, c uint64) []uint64 {
	return slices.Repeat([]uint64{c}, k)
}

// points are all points of k coordinates from some numbers.
func points(k int, numbers ...uint64) [][]uint64 {
	list := [][]uint64{{}}
	for range k {
		var longer [][]uint64
		for _, p := range list {
			for _, c := range numbers {
				longer = append(longer, append(slices.Clone(p), c))
			}
		}
		list = longer
	}
	return list
}

// numbers are those from 0 to below n.
func numbers(n uint64) []uint64 {
	var list []uint64
	for c := range n {
		list = append(list, c)
	}
	return list
}

// ends are numbers at their ends, and where bits change.
func ends() []uint64 {
	return []uint64{0, 1, 2, 5, 1<<32 - 1, 1 << 32, 1<<62 - 1, 1 << 62, 1<<63 - 1, 1 << 63, 3 << 62, most - 1, most}
}

// boxes are all boxes with corners from a list, empty ones as well.
func boxes(corners [][]uint64) []api.Box {
	var list []api.Box
	for _, lo := range corners {
		for _, hi := range corners {
			list = append(list, api.Box{Lo: lo, Hi: hi})
		}
	}
	return list
}

// lists are points and others, of many lengths.
func lists() [][]uint64 {
	return [][]uint64{nil, {}, same(1, 1), same(2, 1), same(15, 1), same(16, 1), same(17, 1), same(100, 1)}
}

func notLevels() []int {
	return []int{math.MinInt, math.MinInt + 1, -65, -64, -2, 64, 65, 127, 128, 1 << 32, math.MaxInt - 1, math.MaxInt}
}

// wrongMasks are those of another K, or with other bits than the lowest K.
func wrongMasks() []Mask {
	list := []Mask{{}}
	for _, k := range []int{math.MinInt, -64, -2, -1, 0, 17, 18, 62, 63, 64, 65, math.MaxInt} {
		list = append(list, Mask{K: k}, Mask{K: k, High: 1}, Mask{K: k, Low: 1, High: 3}, Mask{K: k, High: 1<<16 - 1}, Mask{K: k, Low: -1, High: -1})
	}
	for k := 1; k <= 16; k++ {
		all := 1<<k - 1
		for _, more := range []int{1 << k, 1 << (k + 1), 1 << 32, 1 << 62, math.MinInt} {
			list = append(list, Mask{K: k, High: more}, Mask{K: k, High: all | more}, Mask{K: k, Low: more, High: all}, Mask{K: k, Low: more, High: more}, Mask{K: k, Low: all | more, High: all | more})
		}
		list = append(list, Mask{K: k, Low: -1, High: all}, Mask{K: k, High: -1}, Mask{K: k, Low: -1, High: -1}, Mask{K: k, Low: math.MaxInt, High: math.MaxInt})
	}
	return list
}

// outside are addresses that no mask of k can have.
func outside(k int) []int {
	return []int{math.MinInt, math.MinInt + 1, -1 << 32, -1 << k, -2, -1, 1 << k, 1<<k + 1, 1 << (k + 1), 1 << 32, 1 << 62, math.MaxInt - 1, math.MaxInt}
}

// The plain ones follow the chapter's words.

// cutOff tells a number without its bits at a level and below, by division, so that it stands apart from what is tested.
func cutOff(c uint64, level int) uint64 {
	for range level + 1 {
		c /= 2
	}
	return c
}

// plainHalf: is n in the half of c at a level?
func plainHalf(n, c uint64, level, half int) bool {
	return cutOff(n, level) == cutOff(c, level) && int(cutOff(n, level-1)%2) == half
}

// plainLeaves: if a number is in both, the least one of those is lo, or the half's least one.
func plainLeaves(c uint64, level, half int, lo, hi uint64) bool {
	least := cutOff(c, level)*2 + uint64(half)
	for range level {
		least *= 2
	}
	for _, n := range []uint64{lo, least} {
		if plainHalf(n, c, level, half) && n >= lo && n <= hi {
			return true
		}
	}
	return false
}

// plainOf tells K and the masks, of which each is put together bit by bit.
func plainOf(p []uint64, level int, b api.Box) Mask {
	m := Mask{K: len(p)}
	for i, c := range p {
		m.Low, m.High = m.Low*2, m.High*2
		if !plainLeaves(c, level, 0, b.Lo[i], b.Hi[i]) {
			m.Low++
		}
		if plainLeaves(c, level, 1, b.Lo[i], b.Hi[i]) {
			m.High++
		}
	}
	return m
}

// plainLeft tells all addresses that are left, rising.
func plainLeft(m Mask) []int {
	var list []int
	for addr := range 1 << m.K {
		left := true
		for i := range m.K {
			if addr>>i%2 == 0 {
				left = left && m.Low>>i%2 == 0
			} else {
				left = left && m.High>>i%2 == 1
			}
		}
		if left {
			list = append(list, addr)
		}
	}
	return list
}

// plainNext tells the least of the addresses that is greater than addr.
func plainNext(left []int, addr int) (int, bool) {
	i, found := slices.BinarySearch(left, addr)
	if found {
		i++
	}
	if i == len(left) {
		return 0, false
	}
	return left[i], true
}

func mustOf(t *testing.T, p []uint64, level int, b api.Box) Mask {
	t.Helper()
	m, e := Of(p, level, b)
	if e != api.Fine {
		t.Fatal("of", p, level, b, e)
	}
	return m
}

func mustWhole(t *testing.T, p []uint64, level int, b api.Box) bool {
	t.Helper()
	whole, e := Whole(p, level, b)
	if e != api.Fine {
		t.Fatal("whole", p, level, b, e)
	}
	return whole
}

// checkMask asks a right mask all that can be asked.
func checkMask(t *testing.T, m Mask) {
	t.Helper()
	left := plainLeft(m)
	if m.None() != (len(left) == 0) || m.Count() != len(left) {
		t.Fatal(m, m.None(), m.Count(), left)
	}
	for addr := range 1 << m.K {
		_, found := slices.BinarySearch(left, addr)
		if m.Has(addr) != found {
			t.Fatal("has", m, addr, left)
		}
		checkNext(t, m, left, addr)
	}
	for _, addr := range outside(m.K) {
		if m.Has(addr) {
			t.Fatal("has", m, addr)
		}
		checkNext(t, m, left, addr)
	}
	want, some := plainNext(left, -1)
	if first, ok := m.First(); first != want || ok != some {
		t.Fatal("first", m, first, ok, left)
	}
}

func checkNext(t *testing.T, m Mask, left []int, addr int) {
	t.Helper()
	want, some := plainNext(left, addr)
	if next, ok := m.Next(addr); next != want || ok != some {
		t.Fatal("next", m, addr, next, ok, left)
	}
}

// P4.1: Of, by literals: the chapter's example, levels at their ends, numbers at their ends, sides that are empty.
func TestOf(t *testing.T) {
	for _, c := range []struct {
		p         []uint64
		level     int
		lo, hi    []uint64
		low, high int
	}{
		{[]uint64{0, 0}, 1, []uint64{1, 2}, []uint64{3, 2}, 1, 3},
		{[]uint64{9, 0, 4}, 2, []uint64{0, 2, 0}, []uint64{11, 9, 3}, 0, 2},
		{[]uint64{0}, 0, []uint64{0}, []uint64{0}, 0, 0},
		{[]uint64{0}, 0, []uint64{1}, []uint64{1}, 1, 1},
		{[]uint64{0}, 0, []uint64{0}, []uint64{1}, 0, 1},
		{[]uint64{0}, 0, []uint64{2}, []uint64{3}, 1, 0},
		{[]uint64{2}, 0, []uint64{0}, []uint64{1}, 1, 0},
		{[]uint64{5}, 1, []uint64{5}, []uint64{5}, 0, 0},
		{[]uint64{5}, 1, []uint64{5}, []uint64{6}, 0, 1},
		{[]uint64{5}, 1, []uint64{6}, []uint64{6}, 1, 1},
		{[]uint64{5}, 1, []uint64{8}, []uint64{most}, 1, 0},
		{[]uint64{0}, 63, []uint64{0}, []uint64{1<<63 - 1}, 0, 0},
		{[]uint64{0}, 63, []uint64{0}, []uint64{1 << 63}, 0, 1},
		{[]uint64{0}, 63, []uint64{1 << 63}, []uint64{most}, 1, 1},
		{[]uint64{most}, 63, []uint64{1<<63 - 1}, []uint64{1<<63 - 1}, 0, 0},
		{[]uint64{most}, 63, []uint64{0}, []uint64{most}, 0, 1},
		{[]uint64{most}, 62, []uint64{0}, []uint64{1<<63 - 1}, 1, 0},
		{[]uint64{most}, 62, []uint64{1<<63 - 1}, []uint64{1 << 63}, 0, 0},
		{[]uint64{most}, 0, []uint64{most}, []uint64{most}, 1, 1},
		{[]uint64{most}, 0, []uint64{most - 1}, []uint64{most - 1}, 0, 0},
		// Both ends of an empty side lie in a half, and yet none of its numbers does.
		{[]uint64{0}, 0, []uint64{3}, []uint64{0}, 1, 0},
		{[]uint64{0}, 3, []uint64{6}, []uint64{2}, 1, 0},
		{[]uint64{0}, 3, []uint64{12}, []uint64{3}, 1, 0},
		{[]uint64{0}, 3, []uint64{14}, []uint64{9}, 1, 0},
		{[]uint64{0}, 63, []uint64{most}, []uint64{0}, 1, 0},
		{[]uint64{0, 0}, 3, []uint64{6, 0}, []uint64{2, 15}, 2, 1},
		{[]uint64{0, 0}, 3, []uint64{0, 6}, []uint64{15, 2}, 1, 2},
		{same(16, 0), 5, same(16, 0), same(16, 63), 0, 1<<16 - 1},
		{same(16, 0), 5, same(16, 32), same(16, 63), 1<<16 - 1, 1<<16 - 1},
		{same(16, 0), 5, same(16, 0), same(16, 31), 0, 0},
		{same(16, 0), 5, same(16, 64), same(16, 99), 1<<16 - 1, 0},
	} {
		want := Mask{K: len(c.p), Low: c.low, High: c.high}
		if m := mustOf(t, c.p, c.level, api.Box{Lo: c.lo, Hi: c.hi}); m != want {
			t.Error(c, m)
		}
	}
}

// P4.1: of each coordinate the masks have the bit that addresses have for it.
func TestOfHasAddressesBits(t *testing.T) {
	for k := 1; k <= api.MaxK; k++ {
		for i := range k {
			one := same(k, 0)
			one[i] = 1 << 7
			bit, _ := zbits.Addr(one, 7)
			b := api.Box{Lo: same(k, 0), Hi: same(k, 127)}
			b.Hi[i] = 255
			if m := mustOf(t, same(k, 3), 7, b); m != (Mask{k, 0, bit}) {
				t.Error(k, i, m)
			}
			b.Lo[i] = 128
			if m := mustOf(t, same(k, 3), 7, b); m != (Mask{k, bit, bit}) {
				t.Error(k, i, m)
			}
			b.Lo[i], b.Hi[i] = 256, 300
			if m := mustOf(t, same(k, 3), 7, b); m != (Mask{k, bit, 0}) {
				t.Error(k, i, m)
			}
		}
	}
}

// P4.1: the masks are the chapter's, at all levels.
func TestOfIsPlain(t *testing.T) {
	for _, list := range [][][]uint64{points(1, numbers(18)...), points(1, ends()...), points(2, 0, 2, 5, 7, 8)} {
		for _, b := range boxes(list) {
			for _, p := range list {
				for _, level := range []int{0, 1, 2, 3, 4, 31, 32, 61, 62, 63} {
					if m := mustOf(t, p, level, b); m != plainOf(p, level, b) {
						t.Fatal(p, level, b, m, plainOf(p, level, b))
					}
				}
			}
		}
	}
	for level := range 64 {
		for _, b := range boxes(points(1, 0, 0xa5a5a5a55a5a5a5a, most)) {
			if m := mustOf(t, []uint64{0xfedcba9876543210}, level, b); m != plainOf([]uint64{0xfedcba9876543210}, level, b) {
				t.Error(level, b, m)
			}
		}
	}
}

// P4.1, P4.2: the addresses that are left are those of the points in the box that are the same as p above the level.
func TestLeftAreThoseOfPointsInTheBox(t *testing.T) {
	for k := 1; k <= 2; k++ {
		list := points(k, numbers(8)...)
		for _, b := range boxes(points(k, 0, 1, 3, 4, 6, 7)) {
			for _, p := range points(k, 0, 2, 5) {
				for level := range 3 {
					m := mustOf(t, p, level, b)
					above, _ := zbits.Cut(p, level)
					met := make([]bool, 1<<k)
					for _, q := range list {
						addr, _ := zbits.Addr(q, level)
						same, _ := zbits.Cut(q, level)
						in, _ := box.In(b, q)
						met[addr] = met[addr] || in && slices.Equal(same, above)
					}
					for addr, want := range met {
						if m.Has(addr) != want {
							t.Fatal(p, level, b, m, addr)
						}
					}
				}
			}
		}
	}
}

// P4.1: Whole, by literals.
func TestWhole(t *testing.T) {
	for _, c := range []struct {
		p      []uint64
		level  int
		lo, hi []uint64
		want   bool
	}{
		{[]uint64{5, 9}, -1, []uint64{4, 0}, []uint64{7, most}, true},
		{[]uint64{5, 9}, 0, []uint64{4, 0}, []uint64{7, most}, true},
		{[]uint64{5, 9}, 1, []uint64{4, 0}, []uint64{7, most}, true},
		{[]uint64{5, 9}, 2, []uint64{4, 0}, []uint64{7, most}, false},
		{[]uint64{5, 9}, 63, []uint64{4, 0}, []uint64{7, most}, false},
		{[]uint64{5}, -1, []uint64{5}, []uint64{5}, true},
		{[]uint64{5}, -1, []uint64{4}, []uint64{4}, false},
		{[]uint64{5}, -1, []uint64{6}, []uint64{most}, false},
		{[]uint64{5}, 0, []uint64{5}, []uint64{5}, false},
		{[]uint64{5}, 0, []uint64{4}, []uint64{5}, true},
		{[]uint64{5}, 1, []uint64{5}, []uint64{7}, false},
		{[]uint64{5}, 1, []uint64{4}, []uint64{6}, false},
		{[]uint64{0}, -1, []uint64{0}, []uint64{0}, true},
		{[]uint64{most}, -1, []uint64{most}, []uint64{most}, true},
		{[]uint64{most}, 62, []uint64{1 << 63}, []uint64{most}, true},
		{[]uint64{most}, 62, []uint64{1<<63 + 1}, []uint64{most}, false},
		{[]uint64{0}, 62, []uint64{0}, []uint64{1<<63 - 1}, true},
		{[]uint64{0}, 62, []uint64{0}, []uint64{1<<63 - 2}, false},
		{[]uint64{0}, 63, []uint64{0}, []uint64{most}, true},
		{[]uint64{most}, 63, []uint64{0}, []uint64{most}, true},
		{[]uint64{7}, 63, []uint64{1}, []uint64{most}, false},
		{[]uint64{7}, 63, []uint64{0}, []uint64{most - 1}, false},
		// Of an empty box no point is in it.
		{[]uint64{5}, -1, []uint64{6}, []uint64{4}, false},
		{[]uint64{5}, -1, []uint64{5}, []uint64{4}, false},
		{[]uint64{5}, -1, []uint64{6}, []uint64{5}, false},
		{[]uint64{5, 5}, -1, []uint64{0, 6}, []uint64{9, 4}, false},
		{[]uint64{5}, 63, []uint64{most}, []uint64{0}, false},
		{same(16, 5), 63, same(16, 0), same(16, most), true},
	} {
		if whole := mustWhole(t, c.p, c.level, api.Box{Lo: c.lo, Hi: c.hi}); whole != c.want {
			t.Error(c, whole)
		}
	}
}

// P4.1: each coordinate of all sizes counts, below and above.
func TestWholeOfAllSizes(t *testing.T) {
	for k := 1; k <= api.MaxK; k++ {
		for i := range k {
			for _, c := range []struct {
				lo, hi uint64
				want   bool
			}{{4, 7, true}, {5, 7, false}, {4, 6, false}, {0, most, true}, {8, most, false}, {0, 3, false}} {
				b := api.Box{Lo: same(k, 4), Hi: same(k, 7)}
				b.Lo[i], b.Hi[i] = c.lo, c.hi
				if mustWhole(t, same(k, 6), 1, b) != c.want {
					t.Error(k, i, c)
				}
			}
		}
	}
}

// P4.1: it is true just if all points are in the box that are the same as p, cut at the level.
func TestWholeHasAllPoints(t *testing.T) {
	for k := 1; k <= 2; k++ {
		list := points(k, numbers(8)...)
		for _, b := range boxes(points(k, 0, 1, 3, 4, 5, 7)) {
			for _, p := range points(k, 0, 3, 5) {
				for level := -1; level <= 2; level++ {
					cut, _ := zbits.Cut(p, level)
					want := true
					for _, q := range list {
						same, _ := zbits.Cut(q, level)
						in, _ := box.In(b, q)
						want = want && (in || !slices.Equal(cut, same))
					}
					if mustWhole(t, p, level, b) != want {
						t.Fatal(p, level, b, want)
					}
				}
			}
		}
	}
}

// P4.1: at all levels it is true of the cell, and of nothing less.
func TestWholeOfAllLevels(t *testing.T) {
	for _, c := range []uint64{0, 0xfedcba9876543210, most} {
		p := []uint64{c, most - c}
		for level := -1; level <= 63; level++ {
			b, _ := box.Cell(p, level)
			if !mustWhole(t, p, level, b) {
				t.Error(p, level, b)
			}
			for i := range p {
				less := api.Box{Lo: slices.Clone(b.Lo), Hi: b.Hi}
				if less.Lo[i]++; less.Lo[i] != 0 && mustWhole(t, p, level, less) {
					t.Error(p, level, less)
				}
				less = api.Box{Lo: b.Lo, Hi: slices.Clone(b.Hi)}
				if less.Hi[i]--; less.Hi[i] != most && mustWhole(t, p, level, less) {
					t.Error(p, level, less)
				}
			}
			if level < 63 && mustWhole(t, p, level+1, b) {
				t.Error("one level more", p, level, b)
			}
		}
	}
}

// P4.1: Dim, unless p is a point and b right, with as many coordinates; Dim goes ahead of Arg.
func TestDim(t *testing.T) {
	for _, p := range lists() {
		for _, lo := range lists() {
			for _, hi := range lists() {
				right := len(p) >= 1 && len(p) <= 16 && len(p) == len(lo) && len(p) == len(hi)
				for _, level := range append(notLevels(), -1, 0, 63) {
					checkErrors(t, p, level, api.Box{Lo: lo, Hi: hi}, right)
				}
			}
		}
	}
}

// checkErrors asks of a box that has p alone, if all is right.
func checkErrors(t *testing.T, p []uint64, level int, b api.Box, right bool) {
	t.Helper()
	wantOf, wantWhole := api.Fine, api.Fine
	if level < 0 || level > 63 {
		wantOf = api.Arg
	}
	if level < -1 || level > 63 {
		wantWhole = api.Arg
	}
	if !right {
		wantOf, wantWhole = api.Dim, api.Dim
	}
	m, e := Of(p, level, b)
	if e != wantOf || (m != Mask{}) != (e == api.Fine) {
		t.Error("of", len(p), len(b.Lo), len(b.Hi), level, m, e)
	}
	whole, e := Whole(p, level, b)
	if e != wantWhole || whole != (e == api.Fine && level == -1) {
		t.Error("whole", len(p), len(b.Lo), len(b.Hi), level, whole, e)
	}
}

// P4.1: Arg of no level, also of an empty box; level -1 is Whole's alone.
func TestNoLevel(t *testing.T) {
	for k := 1; k <= api.MaxK; k++ {
		for _, b := range []api.Box{{Lo: same(k, 0), Hi: same(k, most)}, {Lo: same(k, 1), Hi: same(k, 0)}} {
			for _, level := range notLevels() {
				if m, e := Of(same(k, 1), level, b); m != (Mask{}) || e != api.Arg {
					t.Error(k, level, m, e)
				}
				if whole, e := Whole(same(k, 1), level, b); whole || e != api.Arg {
					t.Error(k, level, whole, e)
				}
			}
			if m, e := Of(same(k, 1), -1, b); m != (Mask{}) || e != api.Arg {
				t.Error(k, m, e)
			}
			if whole, e := Whole(same(k, 1), -1, b); whole != (b.Lo[0] == 0) || e != api.Fine {
				t.Error(k, whole, e)
			}
		}
	}
}

// P4.2: what is left, by literals: a next address behind one that isn't left, addresses below 0 and above all.
func TestLeft(t *testing.T) {
	m := Mask{K: 4, Low: 2, High: 11}
	for addr := -1; addr <= 16; addr++ {
		if m.Has(addr) != slices.Contains([]int{2, 3, 10, 11}, addr) {
			t.Error(addr)
		}
	}
	if first, ok := m.First(); first != 2 || !ok || m.None() || m.Count() != 4 {
		t.Error(first, ok, m.None(), m.Count())
	}
	for _, c := range []struct {
		addr, next int
		ok         bool
	}{
		{math.MinInt, 2, true}, {-5, 2, true}, {-1, 2, true}, {0, 2, true}, {1, 2, true}, {2, 3, true},
		{3, 10, true}, {4, 10, true}, {6, 10, true}, {7, 10, true}, {8, 10, true}, {9, 10, true}, {10, 11, true},
		{11, 0, false}, {12, 0, false}, {14, 0, false}, {15, 0, false}, {16, 0, false}, {1 << 40, 0, false}, {math.MaxInt, 0, false},
	} {
		if next, ok := m.Next(c.addr); next != c.next || ok != c.ok {
			t.Error(c, next, ok)
		}
	}
	// The chapter's example: left are 1 and 3.
	m = mustOf(t, []uint64{0, 0}, 1, api.Box{Lo: []uint64{1, 2}, Hi: []uint64{3, 2}})
	first, _ := m.First()
	next, _ := m.Next(first)
	if last, ok := m.Next(next); first != 1 || next != 3 || last != 0 || ok || m.Count() != 2 {
		t.Error(first, next, last, ok)
	}
}

// P4.2: all masks of small K, with all addresses and those outside.
func TestMasksArePlain(t *testing.T) {
	for k := 1; k <= 5; k++ {
		for low := range 1 << k {
			for high := range 1 << k {
				checkMask(t, Mask{k, low, high})
			}
		}
	}
}

// P4.2: masks of all sizes: of all, of one, of none, and others.
func TestMasksOfAllSizes(t *testing.T) {
	for k := 6; k <= api.MaxK; k++ {
		all := 1<<k - 1
		top := 1 << (k - 1)
		for _, m := range []Mask{
			{k, 0, all}, {k, 0, 0}, {k, all, all}, {k, all, 0}, {k, 1, 0}, {k, top, 0}, {k, top, all}, {k, 1, all},
			{k, 0, top}, {k, 0, 1}, {k, 0, top | 1}, {k, top, top | 1}, {k, 1, top | 1}, {k, all - 1, all}, {k, all, all - 1},
			{k, 0x2492 & all, 0xb6db & all}, {k, 0x1248 & all, 0xdeff & all},
		} {
			checkMask(t, m)
		}
	}
}

// P4.2: a mask of all bits, of the greatest K, tells all addresses in a row.
func TestAllAddresses(t *testing.T) {
	m := Mask{K: 16, High: 1<<16 - 1}
	want := 0
	for addr, ok := m.First(); ok; addr, ok = m.Next(addr) {
		if addr != want {
			t.Fatal(addr, want)
		}
		want++
	}
	if want != 1<<16 || m.Count() != want {
		t.Error(want, m.Count())
	}
}

// P4.2: of any other mask nothing is left.
func TestWrongMasks(t *testing.T) {
	for _, m := range wrongMasks() {
		if !m.None() || m.Count() != 0 {
			t.Error(m, m.None(), m.Count())
		}
		if first, ok := m.First(); first != 0 || ok {
			t.Error(m, first, ok)
		}
		for _, addr := range append(outside(16), 0, 1, 2, 3, 1<<16-1, m.Low, m.High, m.Low-1) {
			next, ok := m.Next(addr)
			if m.Has(addr) || next != 0 || ok {
				t.Error(m, addr, m.Has(addr), next, ok)
			}
		}
	}
}

// R4: what is handed in stays as it is.
func TestNothingChanged(t *testing.T) {
	p := []uint64{7, 12, most}
	b := api.Box{Lo: []uint64{1, 2, 3}, Hi: []uint64{4, 5, most}}
	for level := -1; level <= 63; level++ {
		Of(p, level, b)
		Whole(p, level, b)
	}
	if !slices.Equal(p, []uint64{7, 12, most}) || !slices.Equal(b.Lo, []uint64{1, 2, 3}) || !slices.Equal(b.Hi, []uint64{4, 5, most}) {
		t.Error(p, b)
	}
}
