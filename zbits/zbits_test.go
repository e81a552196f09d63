package zbits

import (
	"math"
	"slices"
	"testing"

	"pantile/api"
)

const most = math.MaxUint64

// notPoints are lists of too few, or too many, coordinates.
func notPoints() [][]uint64 {
	return [][]uint64{nil, {}, make([]uint64, api.MaxK+1), make([]uint64, 100)}
}

func notLevels() []int {
	return []int{math.MinInt, -65, -64, -2, -1, 64, 65, 127, 128, 1 << 32, math.MaxInt}
}

// same makes a point of k like coordinates.
func same(k int, c uint64) []uint64 {
	return slices.Repeat([]uint64{c}, k)
}

// corners are the points of k coordinates from a few numbers at the ends and in between.
func corners(k int) [][]uint64 {
	list := [][]uint64{{}}
	for range k {
		var longer [][]uint64
		for _, p := range list {
			for _, c := range []uint64{0, 1, 2, 3, 1<<32 - 1, 1 << 32, 1<<63 - 1, 1 << 63, most} {
				longer = append(longer, append(slices.Clone(p), c))
			}
		}
		list = longer
	}
	return list
}

// grid is all points of k coordinates from 0 to below n.
func grid(k int, n uint64) [][]uint64 {
	list := [][]uint64{{}}
	for range k {
		var longer [][]uint64
		for _, p := range list {
			for c := range n {
				longer = append(longer, append(slices.Clone(p), c))
			}
		}
		list = longer
	}
	return list
}

// bitOf tells a bit by division, so that it stands apart from what is tested.
func bitOf(c uint64, level int) int {
	for range level {
		c /= 2
	}
	return int(c % 2)
}

// plainAddr, plainPart and plainCmp follow the chapter's words, level by level.
func plainAddr(p []uint64, level int) int {
	addr := 0
	for _, c := range p {
		addr = addr*2 + bitOf(c, level)
	}
	return addr
}

func plainPart(p, q []uint64) int {
	for level := 63; level >= 0; level-- {
		if plainAddr(p, level) != plainAddr(q, level) {
			return level
		}
	}
	return -1
}

func plainCmp(p, q []uint64) int {
	level := plainPart(p, q)
	if level == -1 {
		return 0
	}
	if plainAddr(p, level) < plainAddr(q, level) {
		return -1
	}
	return 1
}

func plainCut(p []uint64, level int) []uint64 {
	q := slices.Clone(p)
	for i := range q {
		for l := 0; l <= level; l++ {
			q[i] -= uint64(bitOf(q[i], l)) << l
		}
	}
	return q
}

func mustCut(t *testing.T, p []uint64, level int) []uint64 {
	t.Helper()
	q, e := Cut(p, level)
	if e != api.Fine {
		t.Fatal("cut", p, level, e)
	}
	return q
}

func mustCmp(t *testing.T, p, q []uint64) int {
	t.Helper()
	c, e := Cmp(p, q)
	if e != api.Fine {
		t.Fatal("cmp", p, q, e)
	}
	return c
}

func mustPart(t *testing.T, p, q []uint64) int {
	t.Helper()
	level, e := Part(p, q)
	if e != api.Fine {
		t.Fatal("part", p, q, e)
	}
	return level
}

// P1.1: Right.
func TestRight(t *testing.T) {
	for k := range 40 {
		want := k >= 1 && k <= 16
		if Right(make([]uint64, k)) != want || Right(same(k, most)) != want {
			t.Error(k)
		}
	}
	if Right(nil) {
		t.Error("nil")
	}
	if Right(make([]uint64, 0, 8)) {
		t.Error("what lies behind the length counted")
	}
}

// P1.1: Addr, by the chapter's example and others.
func TestAddr(t *testing.T) {
	for _, c := range []struct {
		p           []uint64
		level, addr int
	}{
		{[]uint64{2, 1}, 1, 2},
		{[]uint64{2, 1}, 0, 1},
		{[]uint64{2, 1}, 2, 0},
		{[]uint64{2, 1}, 63, 0},
		{[]uint64{0}, 0, 0},
		{[]uint64{most}, 63, 1},
		{[]uint64{1 << 63}, 63, 1},
		{[]uint64{1 << 63}, 62, 0},
		{[]uint64{1 << 63, 0, 1}, 63, 4},
		{[]uint64{1 << 63, 0, 1}, 0, 1},
		{same(16, most), 0, 1<<16 - 1},
		{same(16, most), 63, 1<<16 - 1},
		{append([]uint64{1}, make([]uint64, 15)...), 0, 1 << 15},
	} {
		if addr, e := Addr(c.p, c.level); addr != c.addr || e != api.Fine {
			t.Error(c, addr, e)
		}
	}
}

func TestAddrIsPlain(t *testing.T) {
	for k := 1; k <= 3; k++ {
		for _, p := range corners(k) {
			for level := range 64 {
				if addr, e := Addr(p, level); addr != plainAddr(p, level) || e != api.Fine {
					t.Fatal(p, level, addr, e)
				}
			}
		}
	}
}

func TestAddrOfAllSizes(t *testing.T) {
	for k := 1; k <= api.MaxK; k++ {
		for i := range k {
			for _, level := range []int{0, 1, 31, 32, 62, 63} {
				p := make([]uint64, k)
				p[i] = 1 << level
				if addr, e := Addr(p, level); addr != 1<<(k-1-i) || e != api.Fine {
					t.Error(k, i, level, addr, e)
				}
			}
		}
	}
}

// P1.1: Cut.
func TestCut(t *testing.T) {
	for _, c := range []struct {
		p     []uint64
		level int
		want  []uint64
	}{
		{[]uint64{7, 12}, -1, []uint64{7, 12}},
		{[]uint64{7, 12}, 0, []uint64{6, 12}},
		{[]uint64{7, 12}, 1, []uint64{4, 12}},
		{[]uint64{7, 12}, 2, []uint64{0, 8}},
		{[]uint64{7, 12}, 3, []uint64{0, 0}},
		{[]uint64{most}, -1, []uint64{most}},
		{[]uint64{most}, 0, []uint64{most - 1}},
		{[]uint64{most}, 62, []uint64{1 << 63}},
		{[]uint64{most}, 63, []uint64{0}},
	} {
		if q, e := Cut(c.p, c.level); e != api.Fine || !slices.Equal(q, c.want) {
			t.Error(c, q, e)
		}
	}
}

func TestCutIsPlain(t *testing.T) {
	for _, p := range corners(2) {
		for level := -1; level <= 63; level++ {
			if q := mustCut(t, p, level); !slices.Equal(q, plainCut(p, level)) {
				t.Fatal(p, level, q)
			}
		}
	}
	for k := 1; k <= api.MaxK; k++ {
		if q := mustCut(t, same(k, most), 9); !slices.Equal(q, same(k, most-1023)) {
			t.Error(k, q)
		}
	}
}

// P1.1: Place.
func TestPlace(t *testing.T) {
	for _, c := range []struct {
		p           []uint64
		level, addr int
		want        []uint64
	}{
		{[]uint64{7, 12}, 0, 0, []uint64{6, 12}},
		{[]uint64{7, 12}, 0, 1, []uint64{6, 13}},
		{[]uint64{7, 12}, 0, 2, []uint64{7, 12}},
		{[]uint64{7, 12}, 2, 1, []uint64{0, 12}},
		{[]uint64{7, 12}, 2, 3, []uint64{4, 12}},
		{[]uint64{0}, 63, 1, []uint64{1 << 63}},
		{[]uint64{most}, 63, 0, []uint64{0}},
		{same(16, 0), 63, 1<<16 - 1, same(16, 1<<63)},
		{same(16, most), 0, 0, same(16, most-1)},
	} {
		if q, e := Place(c.p, c.level, c.addr); e != api.Fine || !slices.Equal(q, c.want) {
			t.Error(c, q, e)
		}
	}
}

func TestPlaceHasItsAddress(t *testing.T) {
	for k := 1; k <= api.MaxK; k++ {
		// An odd step, so that every bit of the addresses changes, without all 2^16 of them.
		step := 1<<k/256*2 + 1
		for addr := 0; addr < 1<<k; addr += step {
			for _, level := range []int{0, 1, 31, 32, 33, 62, 63} {
				p := same(k, 0xfedcba9876543210)
				q, e := Place(p, level, addr)
				if e != api.Fine || plainAddr(q, level) != addr || !slices.Equal(plainCut(q, level), plainCut(p, level)) {
					t.Fatal(k, addr, level, q, e)
				}
				if level > 0 && !slices.Equal(q, plainCut(q, level-1)) {
					t.Fatal("bits below", k, addr, level, q)
				}
			}
		}
	}
}

// P1.1: the errors, with the first one that holds.
func TestNoPoint(t *testing.T) {
	for _, p := range notPoints() {
		for _, level := range append(notLevels(), 0, 63) {
			if addr, e := Addr(p, level); addr != 0 || e != api.Dim {
				t.Error("addr", len(p), level, addr, e)
			}
			if q, e := Cut(p, level); len(q) != 0 || e != api.Dim {
				t.Error("cut", len(p), level, q, e)
			}
			for _, addr := range []int{math.MinInt, -1, 0, 1, math.MaxInt} {
				if q, e := Place(p, level, addr); len(q) != 0 || e != api.Dim {
					t.Error("place", len(p), level, addr, q, e)
				}
			}
		}
	}
}

func TestNoLevel(t *testing.T) {
	for k := 1; k <= api.MaxK; k++ {
		p := same(k, most)
		for _, level := range notLevels() {
			if addr, e := Addr(p, level); addr != 0 || e != api.Arg {
				t.Error("addr", k, level, addr, e)
			}
			for _, addr := range []int{-1, 0, 1} {
				if q, e := Place(p, level, addr); len(q) != 0 || e != api.Arg {
					t.Error("place", k, level, q, e)
				}
			}
			if level == -1 {
				continue
			}
			if q, e := Cut(p, level); len(q) != 0 || e != api.Arg {
				t.Error("cut", k, level, q, e)
			}
		}
	}
}

func TestNoAddress(t *testing.T) {
	for k := 1; k <= api.MaxK; k++ {
		p := same(k, 5)
		for _, level := range []int{0, 1, 63} {
			for _, addr := range []int{math.MinInt, -1 << k, -2, -1, 1 << k, 1<<k + 1, 1 << 40, math.MaxInt} {
				if q, e := Place(p, level, addr); len(q) != 0 || e != api.Arg {
					t.Error(k, level, addr, q, e)
				}
			}
			if _, e := Place(p, level, 1<<k-1); e != api.Fine {
				t.Error("greatest", k, level, e)
			}
		}
	}
}

// P1.2: Part and Cmp, by examples.
func TestPartCmp(t *testing.T) {
	for _, c := range []struct {
		p, q      []uint64
		part, cmp int
	}{
		{[]uint64{1, 1}, []uint64{2, 0}, 1, -1},
		{[]uint64{2, 0}, []uint64{1, 1}, 1, 1},
		{[]uint64{0, 1}, []uint64{1, 0}, 0, -1},
		{[]uint64{0, 2}, []uint64{1, 1}, 1, 1},
		{[]uint64{4, 0}, []uint64{7, 3}, 1, -1},
		{[]uint64{7, 3}, []uint64{0, 8}, 3, -1},
		{[]uint64{0}, []uint64{0}, -1, 0},
		{[]uint64{most}, []uint64{most}, -1, 0},
		{[]uint64{0}, []uint64{most}, 63, -1},
		{[]uint64{most, 0}, []uint64{0, most}, 63, 1},
		{[]uint64{most}, []uint64{most - 1}, 0, 1},
		{same(16, 3), same(16, 3), -1, 0},
		{same(16, 1), same(16, 2), 1, -1},
		{same(16, 1<<63), same(16, 1<<63-1), 63, 1},
	} {
		level, e := Part(c.p, c.q)
		cmp, f := Cmp(c.p, c.q)
		if level != c.part || cmp != c.cmp || e != api.Fine || f != api.Fine {
			t.Error(c, level, cmp, e, f)
		}
	}
}

func TestPartCmpArePlain(t *testing.T) {
	list := corners(2)
	for _, p := range list {
		for _, q := range list {
			if level := mustPart(t, p, q); level != plainPart(p, q) {
				t.Fatal("part", p, q, level)
			}
			if cmp := mustCmp(t, p, q); cmp != plainCmp(p, q) {
				t.Fatal("cmp", p, q, cmp)
			}
		}
	}
}

// The last coordinate counts as the first one does, whatever their number.
func TestPartOfAllSizes(t *testing.T) {
	for k := 1; k <= api.MaxK; k++ {
		for i := range k {
			for level := range 64 {
				p, q := same(k, 0), same(k, 0)
				q[i] = 1 << level
				if mustPart(t, p, q) != level || mustCmp(t, p, q) != -1 || mustCmp(t, q, p) != 1 {
					t.Error(k, i, level)
				}
			}
		}
	}
}

// P1.2: Dim, unless both are points with as many coordinates.
func TestNotAlike(t *testing.T) {
	lists := append(notPoints(), same(1, 1), same(2, 1), same(15, 1), same(16, 1))
	for _, p := range lists {
		for _, q := range lists {
			want := api.Dim
			if Right(p) && len(p) == len(q) {
				want = api.Fine
			}
			level, e := Part(p, q)
			cmp, f := Cmp(p, q)
			if e != want || f != want {
				t.Error(len(p), len(q), e, f)
			}
			if want == api.Dim && (level != 0 || cmp != 0) {
				t.Error("beside an error", len(p), len(q), level, cmp)
			}
		}
	}
}

// P1.3: the z-order is an order.
func TestOrder(t *testing.T) {
	for _, list := range [][][]uint64{grid(1, 40), grid(2, 7), grid(3, 4), corners(2)} {
		slices.SortFunc(list, func(p, q []uint64) int { return mustCmp(t, p, q) })
		for i, p := range list {
			for j, q := range list {
				want := 0
				if i < j {
					want = -1
				} else if i > j {
					want = 1
				}
				if mustCmp(t, p, q) != want {
					t.Fatal(p, q, want)
				}
			}
		}
	}
}

// P1.3: two points part at a level, or below, just if they are the same, cut there.
func TestPartAndCut(t *testing.T) {
	for _, list := range [][][]uint64{grid(1, 20), grid(2, 5), grid(3, 3), corners(2)} {
		for _, p := range list {
			for _, q := range list {
				part := mustPart(t, p, q)
				for _, level := range []int{-1, 0, 1, 2, 30, 31, 32, 61, 62, 63} {
					one := slices.Equal(mustCut(t, p, level), mustCut(t, q, level))
					if (part <= level) != one {
						t.Fatal(p, q, part, level)
					}
				}
			}
		}
	}
}

// R4: what is handed in stays as it is, and what is told is the caller's.
func TestNothingShared(t *testing.T) {
	p, was := []uint64{7, 12, most}, []uint64{7, 12, most}
	for level := -1; level <= 63; level++ {
		clear(mustCut(t, p, level))
		if level < 0 {
			continue
		}
		q, _ := Place(p, level, 7)
		clear(q)
		Addr(p, level)
	}
	Part(p, []uint64{1, 2, 3})
	Cmp(p, []uint64{1, 2, 3})
	if !slices.Equal(p, was) {
		t.Error(p)
	}
}

// R4: room behind the list's end isn't written to either.
func TestRoomBehindStays(t *testing.T) {
	room := []uint64{1, 2, 3, 4}
	p := room[:2]
	q, _ := Cut(p, -1)
	_ = append(q, 9)
	r, _ := Place(p, 0, 3)
	_ = append(r, 9)
	if !slices.Equal(room, []uint64{1, 2, 3, 4}) {
		t.Error(room)
	}
}
