package box

import (
	"math"
	"math/big"
	"slices"
	"testing"

	"pantile/api"
	"pantile/zbits"
)

// same makes a point of k like coordinates.
func same(k int, c uint64) []uint64 {
	return slices.Repeat([]uint64{c}, k)
}

// points are all points of k coordinates from some numbers.
func points(k int, numbers ...uint64) [][]uint64 {
	list := [][]uint64{{}}
	for range k {
		var longer [][]uint64
		for _, p := range list {
			for _, c := range numbers {
				longer = append(longer, append(slices.Clone(p), c))
			}
		}
		list = longer
	}
	return list
}

// grid is all points of k coordinates from 0 to below n.
func grid(k int, n uint64) [][]uint64 {
	var numbers []uint64
	for c := range n {
		numbers = append(numbers, c)
	}
	return points(k, numbers...)
}

// ends are numbers at their ends, and where bits change.
func ends() []uint64 {
	return []uint64{0, 1, 2, 5, 1<<32 - 1, 1 << 32, 1<<63 - 1, 1 << 63, most - 2, most - 1, most}
}

// boxes are all boxes with corners from a list, empty ones as well.
func boxes(corners [][]uint64) []api.Box {
	var list []api.Box
	for _, lo := range corners {
		for _, hi := range corners {
			list = append(list, api.Box{Lo: lo, Hi: hi})
		}
	}
	return list
}

// notPoints are lists of too few, or too many, coordinates.
func notPoints() [][]uint64 {
	return [][]uint64{nil, {}, make([]uint64, api.MaxK+1), make([]uint64, 100)}
}

// lists are points and others, of many lengths.
func lists() [][]uint64 {
	return append(notPoints(), same(1, 1), same(2, 1), same(15, 1), same(16, 1))
}

func notLevels() []int {
	return []int{math.MinInt, math.MinInt + 1, -65, -64, -2, 64, 65, 127, 128, 1 << 32, math.MaxInt - 1, math.MaxInt}
}

func isPoint(p []uint64) bool {
	return len(p) >= 1 && len(p) <= 16
}

func isRight(b api.Box) bool {
	return isPoint(b.Lo) && len(b.Lo) == len(b.Hi)
}

func sameBox(a, b api.Box) bool {
	return slices.Equal(a.Lo, b.Lo) && slices.Equal(a.Hi, b.Hi)
}

func noBox(b api.Box) bool {
	return len(b.Lo) == 0 && len(b.Hi) == 0
}

// wide makes a number of which no sum, product or difference goes round.
func wide(u uint64) *big.Int {
	return new(big.Int).SetUint64(u)
}

// capped is a number, from 0 at least to 2^64 - 1 at most.
func capped(n *big.Int) uint64 {
	if n.Sign() < 0 {
		return 0
	}
	if !n.IsUint64() {
		return most
	}
	return n.Uint64()
}

// The plain ones follow the chapter's words.
func plainIn(b api.Box, p []uint64) bool {
	for i := range p {
		if !(p[i] >= b.Lo[i] && p[i] <= b.Hi[i]) {
			return false
		}
	}
	return true
}

func plainVolume(b api.Box) uint64 {
	volume := big.NewInt(1)
	for i := range b.Lo {
		side := new(big.Int).Sub(wide(b.Hi[i]), wide(b.Lo[i]))
		side.Add(side, big.NewInt(1))
		if side.Sign() <= 0 {
			return 0
		}
		volume.Mul(volume, side)
	}
	return capped(volume)
}

func plainAround(p []uint64, n uint64) api.Box {
	var b api.Box
	for _, c := range p {
		b.Lo = append(b.Lo, capped(new(big.Int).Sub(wide(c), wide(n))))
		b.Hi = append(b.Hi, capped(new(big.Int).Add(wide(c), wide(n))))
	}
	return b
}

func plainFar(p, q []uint64) uint64 {
	far := new(big.Int)
	for i := range p {
		d := new(big.Int).Sub(wide(p[i]), wide(q[i]))
		if d.Abs(d).Cmp(far) > 0 {
			far = d
		}
	}
	return far.Uint64()
}

func mustIn(t *testing.T, b api.Box, p []uint64) bool {
	t.Helper()
	in, e := In(b, p)
	if e != api.Fine {
		t.Fatal("in", b, p, e)
	}
	return in
}

func mustFar(t *testing.T, p, q []uint64) uint64 {
	t.Helper()
	far, e := Far(p, q)
	if e != api.Fine {
		t.Fatal("far", p, q, e)
	}
	return far
}

func mustAround(t *testing.T, p []uint64, n uint64) api.Box {
	t.Helper()
	b, e := Around(p, n)
	if e != api.Fine {
		t.Fatal("around", p, n, e)
	}
	return b
}

func mustCell(t *testing.T, p []uint64, level int) api.Box {
	t.Helper()
	b, e := Cell(p, level)
	if e != api.Fine {
		t.Fatal("cell", p, level, e)
	}
	return b
}

func mustMeet(t *testing.T, a, b api.Box) api.Box {
	t.Helper()
	m, e := Meet(a, b)
	if e != api.Fine {
		t.Fatal("meet", a, b, e)
	}
	return m
}

// P3.1: Right.
func TestRight(t *testing.T) {
	for n := range 20 {
		for m := range 20 {
			want := n == m && n >= 1 && n <= 16
			if Right(api.Box{Lo: same(n, 0), Hi: same(m, most)}) != want || Right(api.Box{Lo: same(n, 9), Hi: same(m, 1)}) != want {
				t.Error(n, m)
			}
		}
	}
	for _, b := range []api.Box{{}, {Lo: same(1, 0)}, {Hi: same(1, 0)}, {Lo: make([]uint64, 0, 4), Hi: make([]uint64, 0, 4)}, {Lo: same(100, 0), Hi: same(100, 0)}} {
		if Right(b) {
			t.Error(b)
		}
	}
}

// P3.1: Empty: one coordinate is enough; a box of one point isn't.
func TestEmpty(t *testing.T) {
	for _, c := range []struct {
		lo, hi []uint64
		want   bool
	}{
		{[]uint64{1}, []uint64{1}, false},
		{[]uint64{2}, []uint64{1}, true},
		{[]uint64{0}, []uint64{most}, false},
		{[]uint64{most}, []uint64{0}, true},
		{[]uint64{most}, []uint64{most}, false},
		{[]uint64{most}, []uint64{most - 1}, true},
		{[]uint64{0, 3}, []uint64{most, 1}, true},
		{[]uint64{3, 0}, []uint64{1, most}, true},
		{[]uint64{1, 1, 1}, []uint64{1, 1, 1}, false},
		{[]uint64{1, 1, 1}, []uint64{1, 0, 1}, true},
	} {
		if empty, e := Empty(api.Box{Lo: c.lo, Hi: c.hi}); empty != c.want || e != api.Fine {
			t.Error(c, empty, e)
		}
	}
	for k := 1; k <= api.MaxK; k++ {
		for i := range k {
			b := api.Box{Lo: same(k, 4), Hi: same(k, 4)}
			b.Hi[i] = 3
			if empty, e := Empty(b); !empty || e != api.Fine {
				t.Error(k, i, empty, e)
			}
		}
	}
}

// P3.1: a box is empty just if no point is in it.
func TestEmptyHasNoPoint(t *testing.T) {
	for k := 1; k <= 2; k++ {
		all := grid(k, 4)
		for _, b := range boxes(all) {
			some := slices.ContainsFunc(all, func(p []uint64) bool { return plainIn(b, p) })
			if empty, e := Empty(b); empty == some || e != api.Fine {
				t.Error(b, empty, e)
			}
		}
	}
}

// P3.1: In, by literals and plainly.
func TestIn(t *testing.T) {
	for _, c := range []struct {
		lo, hi, p []uint64
		want      bool
	}{
		{[]uint64{1, 5}, []uint64{3, 5}, []uint64{1, 5}, true},
		{[]uint64{1, 5}, []uint64{3, 5}, []uint64{3, 5}, true},
		{[]uint64{1, 5}, []uint64{3, 5}, []uint64{0, 5}, false},
		{[]uint64{1, 5}, []uint64{3, 5}, []uint64{4, 5}, false},
		{[]uint64{1, 5}, []uint64{3, 5}, []uint64{2, 4}, false},
		{[]uint64{1, 5}, []uint64{3, 5}, []uint64{2, 6}, false},
		{[]uint64{0}, []uint64{most}, []uint64{most}, true},
		{[]uint64{0}, []uint64{most}, []uint64{0}, true},
		{[]uint64{0}, []uint64{most - 1}, []uint64{most}, false},
		{[]uint64{1}, []uint64{most}, []uint64{0}, false},
		{[]uint64{2}, []uint64{1}, []uint64{1}, false},
		{[]uint64{2}, []uint64{1}, []uint64{2}, false},
		{[]uint64{0, 3}, []uint64{9, 1}, []uint64{5, 2}, false},
	} {
		if in, e := In(api.Box{Lo: c.lo, Hi: c.hi}, c.p); in != c.want || e != api.Fine {
			t.Error(c, in, e)
		}
	}
	for _, list := range [][][]uint64{grid(1, 5), grid(2, 4), points(1, ends()...)} {
		for _, b := range boxes(list) {
			for _, p := range list {
				if mustIn(t, b, p) != plainIn(b, p) {
					t.Fatal(b, p)
				}
			}
		}
	}
}

// P3.1: each coordinate of all sizes counts, below and above.
func TestInOfAllSizes(t *testing.T) {
	for k := 1; k <= api.MaxK; k++ {
		b := api.Box{Lo: same(k, 4), Hi: same(k, 6)}
		for i := range k {
			for c, want := range map[uint64]bool{0: false, 3: false, 4: true, 5: true, 6: true, 7: false, most: false} {
				p := same(k, 5)
				p[i] = c
				if mustIn(t, b, p) != want {
					t.Error(k, i, c)
				}
			}
		}
	}
}

// P3.1: Meet, by literals; what has no point in common meets in an empty box.
func TestMeet(t *testing.T) {
	for _, c := range []struct{ a, b, want api.Box }{
		{api.Box{Lo: []uint64{1, 5}, Hi: []uint64{3, 5}}, api.Box{Lo: []uint64{2, 0}, Hi: []uint64{9, 9}}, api.Box{Lo: []uint64{2, 5}, Hi: []uint64{3, 5}}},
		{api.Box{Lo: []uint64{0}, Hi: []uint64{most}}, api.Box{Lo: []uint64{7}, Hi: []uint64{9}}, api.Box{Lo: []uint64{7}, Hi: []uint64{9}}},
		{api.Box{Lo: []uint64{1}, Hi: []uint64{2}}, api.Box{Lo: []uint64{5}, Hi: []uint64{6}}, api.Box{Lo: []uint64{5}, Hi: []uint64{2}}},
		{api.Box{Lo: []uint64{9}, Hi: []uint64{3}}, api.Box{Lo: []uint64{5}, Hi: []uint64{6}}, api.Box{Lo: []uint64{9}, Hi: []uint64{3}}},
		{api.Box{Lo: same(16, 1), Hi: same(16, most)}, api.Box{Lo: same(16, 0), Hi: same(16, 1<<63)}, api.Box{Lo: same(16, 1), Hi: same(16, 1<<63)}},
	} {
		if m := mustMeet(t, c.a, c.b); !sameBox(m, c.want) {
			t.Error(c, m)
		}
		if m := mustMeet(t, c.b, c.a); !sameBox(m, c.want) {
			t.Error("the other way round", c, m)
		}
	}
}

// P3.1, P3.3: what is in both boxes, and nothing else, is in their Meet.
func TestMeetHasWhatBothHave(t *testing.T) {
	for _, list := range [][][]uint64{grid(1, 5), grid(2, 3), points(1, 0, 1, 1<<63, most-1, most)} {
		all := boxes(list)
		for _, a := range all {
			for _, b := range all {
				m := mustMeet(t, a, b)
				for _, p := range list {
					if mustIn(t, m, p) != (mustIn(t, a, p) && mustIn(t, b, p)) {
						t.Fatal(a, b, m, p)
					}
				}
			}
		}
	}
}

// P3.1: Volume, by literals: empty ones, and those of 2^64 - 1, 2^64 and more.
func TestVolume(t *testing.T) {
	for _, c := range []struct {
		lo, hi []uint64
		want   uint64
	}{
		{[]uint64{1, 5}, []uint64{3, 5}, 3},
		{[]uint64{7}, []uint64{7}, 1},
		{[]uint64{most}, []uint64{most}, 1},
		{[]uint64{2}, []uint64{1}, 0},
		{[]uint64{1}, []uint64{0}, 0},
		{[]uint64{most}, []uint64{0}, 0},
		{[]uint64{0, 3}, []uint64{most, 1}, 0},
		{[]uint64{3, 0}, []uint64{1, most}, 0},
		{[]uint64{0, 0, 1}, []uint64{most, most, 0}, 0},
		{[]uint64{1, 0, 0}, []uint64{0, most, most}, 0},
		{[]uint64{0}, []uint64{most}, most},
		{[]uint64{1}, []uint64{most}, most},
		{[]uint64{0}, []uint64{most - 1}, most},
		{[]uint64{2}, []uint64{most}, most - 1},
		{[]uint64{1}, []uint64{most - 1}, most - 1},
		{[]uint64{1, 0}, []uint64{most, 0}, most},
		{[]uint64{1, 0}, []uint64{most, 1}, most},
		{[]uint64{0, 0}, []uint64{0, most}, most},
		{[]uint64{0, 0}, []uint64{most, most}, most},
		{[]uint64{0, 0}, []uint64{1<<32 - 1, 1<<32 - 1}, most},
		{[]uint64{0, 0}, []uint64{1<<32 - 2, 1 << 32}, most},
		{[]uint64{0, 0}, []uint64{1<<32 - 2, 1<<32 - 1}, most - 1<<32 + 1},
		{[]uint64{0, 0}, []uint64{1<<33 - 1, 1 << 31}, most},
		{[]uint64{0, 0}, []uint64{1<<62 - 1, 2}, 3 << 62},
		{[]uint64{0, 0}, []uint64{1<<62 - 1, 3}, most},
		{[]uint64{0, 0}, []uint64{1<<62 - 1, 4}, most},
		{[]uint64{0, 0, 0}, []uint64{most, 1, 0}, most},
		{same(16, 0), same(16, 15), most},
		{same(16, 1), same(16, 15), 6568408355712890625},
		{append(same(15, 0), 1), same(16, 15), 15 << 60},
		{same(16, 0), same(16, most), most},
	} {
		if v, e := Volume(api.Box{Lo: c.lo, Hi: c.hi}); v != c.want || e != api.Fine {
			t.Error(c, v, e)
		}
	}
}

// P3.1: the volume is how many points are in it.
func TestVolumeCounts(t *testing.T) {
	for k := 1; k <= 3; k++ {
		all := grid(k, 3)
		for _, b := range boxes(all) {
			var count uint64
			for _, p := range all {
				if plainIn(b, p) {
					count++
				}
			}
			if v, e := Volume(b); v != count || e != api.Fine {
				t.Error(b, v, e)
			}
		}
	}
}

func TestVolumeIsPlain(t *testing.T) {
	for _, list := range [][][]uint64{points(1, ends()...), points(2, ends()...), points(3, 0, 1, 1<<32, most)} {
		for _, b := range boxes(list) {
			if v, e := Volume(b); v != plainVolume(b) || e != api.Fine {
				t.Fatal(b, v, e)
			}
		}
	}
	for k := 1; k <= api.MaxK; k++ {
		for _, side := range append(ends(), 3, 14, 15, 16, 22, 255, 256, 65535) {
			b := api.Box{Lo: same(k, 0), Hi: same(k, side)}
			if v, e := Volume(b); v != plainVolume(b) || e != api.Fine {
				t.Error(k, side, v, e)
			}
		}
	}
}

// P3.2: Around, by the chapter's example and others.
func TestAround(t *testing.T) {
	for _, c := range []struct {
		p      []uint64
		n      uint64
		lo, hi []uint64
	}{
		{[]uint64{3, 0}, 5, []uint64{0, 0}, []uint64{8, 5}},
		{[]uint64{3, most - 1}, 5, []uint64{0, most - 6}, []uint64{8, most}},
		{[]uint64{5}, 5, []uint64{0}, []uint64{10}},
		{[]uint64{5}, 4, []uint64{1}, []uint64{9}},
		{[]uint64{5}, 6, []uint64{0}, []uint64{11}},
		{[]uint64{7, 9}, 0, []uint64{7, 9}, []uint64{7, 9}},
		{[]uint64{most}, 0, []uint64{most}, []uint64{most}},
		{[]uint64{most}, 1, []uint64{most - 1}, []uint64{most}},
		{[]uint64{most - 1}, 1, []uint64{most - 2}, []uint64{most}},
		{[]uint64{0}, most, []uint64{0}, []uint64{most}},
		{[]uint64{most}, most, []uint64{0}, []uint64{most}},
		{[]uint64{1}, most, []uint64{0}, []uint64{most}},
		{[]uint64{1 << 63}, 1 << 63, []uint64{0}, []uint64{most}},
		{same(16, 8), 2, same(16, 6), same(16, 10)},
	} {
		if b := mustAround(t, c.p, c.n); !sameBox(b, api.Box{Lo: c.lo, Hi: c.hi}) {
			t.Error(c, b)
		}
	}
	for _, p := range append(points(2, ends()...), grid(1, 12)...) {
		for _, n := range append(ends(), 3, 4) {
			if b := mustAround(t, p, n); !sameBox(b, plainAround(p, n)) {
				t.Fatal(p, n, b)
			}
		}
	}
}

// P3.3: a point is in Around(p, n) just if its distance to p is at most n.
func TestAroundAndFar(t *testing.T) {
	for _, list := range [][][]uint64{grid(1, 12), grid(2, 6), points(2, ends()...)} {
		for _, p := range list {
			for _, n := range append(ends(), 3, 4) {
				b := mustAround(t, p, n)
				for _, q := range list {
					if mustIn(t, b, q) != (mustFar(t, p, q) <= n) {
						t.Fatal(p, n, q)
					}
				}
			}
		}
	}
}

// P3.2: Cell, by the chapter's example and others.
func TestCell(t *testing.T) {
	for _, c := range []struct {
		p      []uint64
		level  int
		lo, hi []uint64
	}{
		{[]uint64{6, 1}, 1, []uint64{4, 0}, []uint64{7, 3}},
		{[]uint64{6, 1}, -1, []uint64{6, 1}, []uint64{6, 1}},
		{[]uint64{6, 1}, 0, []uint64{6, 0}, []uint64{7, 1}},
		{[]uint64{6, 1}, 2, []uint64{0, 0}, []uint64{7, 7}},
		{[]uint64{6, 1}, 62, []uint64{0, 0}, []uint64{1<<63 - 1, 1<<63 - 1}},
		{[]uint64{6, 1}, 63, []uint64{0, 0}, []uint64{most, most}},
		{[]uint64{most}, -1, []uint64{most}, []uint64{most}},
		{[]uint64{most}, 0, []uint64{most - 1}, []uint64{most}},
		{[]uint64{most}, 62, []uint64{1 << 63}, []uint64{most}},
		{[]uint64{most}, 63, []uint64{0}, []uint64{most}},
		{[]uint64{0}, 31, []uint64{0}, []uint64{1<<32 - 1}},
		{[]uint64{1 << 32}, 31, []uint64{1 << 32}, []uint64{1<<33 - 1}},
		{same(16, 5), 1, same(16, 4), same(16, 7)},
	} {
		if b := mustCell(t, c.p, c.level); !sameBox(b, api.Box{Lo: c.lo, Hi: c.hi}) {
			t.Error(c, b)
		}
	}
}

// P3.2: what is in a cell is, just so, what is the same as its point, cut at the level.
func TestCellIsWhatIsCutAlike(t *testing.T) {
	for _, list := range [][][]uint64{grid(1, 20), grid(2, 5), points(2, ends()...)} {
		for _, p := range list {
			for _, level := range []int{-1, 0, 1, 2, 3, 31, 32, 61, 62, 63} {
				b := mustCell(t, p, level)
				cut, _ := zbits.Cut(p, level)
				for _, q := range list {
					other, _ := zbits.Cut(q, level)
					if mustIn(t, b, q) != slices.Equal(cut, other) {
						t.Fatal(p, level, q)
					}
				}
			}
		}
	}
}

func TestCellOfAllLevels(t *testing.T) {
	for k := 1; k <= api.MaxK; k++ {
		p := same(k, 0xfedcba9876543210)
		for level := -1; level <= 63; level++ {
			side := new(big.Int).Lsh(big.NewInt(1), uint(level+1))
			lo := wide(p[0])
			lo.Sub(lo, new(big.Int).Mod(lo, side))
			hi := new(big.Int).Sub(new(big.Int).Add(lo, side), big.NewInt(1))
			want := api.Box{Lo: same(k, lo.Uint64()), Hi: same(k, hi.Uint64())}
			if b := mustCell(t, p, level); !sameBox(b, want) {
				t.Error(k, level, b)
			}
		}
	}
}

// P3.2: Far, by literals and plainly.
func TestFar(t *testing.T) {
	for _, c := range []struct {
		p, q []uint64
		want uint64
	}{
		{[]uint64{1, 9}, []uint64{4, 2}, 7},
		{[]uint64{4, 2}, []uint64{1, 9}, 7},
		{[]uint64{1, 9}, []uint64{9, 2}, 8},
		{[]uint64{3}, []uint64{3}, 0},
		{[]uint64{0}, []uint64{most}, most},
		{[]uint64{most}, []uint64{0}, most},
		{[]uint64{most, 0}, []uint64{0, most}, most},
		{[]uint64{most, 5}, []uint64{most - 1, 5}, 1},
		{[]uint64{1 << 63}, []uint64{1<<63 - 1}, 1},
		{[]uint64{0}, []uint64{1 << 63}, 1 << 63},
		{same(16, most), same(16, 1), most - 1},
	} {
		if far := mustFar(t, c.p, c.q); far != c.want {
			t.Error(c, far)
		}
	}
	for _, list := range [][][]uint64{grid(2, 6), points(2, ends()...), points(3, 0, 1, 1<<63, most)} {
		for _, p := range list {
			for _, q := range list {
				if mustFar(t, p, q) != plainFar(p, q) {
					t.Fatal(p, q, mustFar(t, p, q))
				}
			}
		}
	}
}

func TestFarOfAllSizes(t *testing.T) {
	for k := 1; k <= api.MaxK; k++ {
		for i := range k {
			p, q := same(k, 100), same(k, 101)
			q[i] = 140
			if mustFar(t, p, q) != 40 || mustFar(t, q, p) != 40 {
				t.Error(k, i)
			}
		}
	}
}

// P3.2: FarBox, by literals.
func TestFarBox(t *testing.T) {
	for _, c := range []struct {
		lo, hi, p []uint64
		want      uint64
	}{
		{[]uint64{1, 5}, []uint64{3, 5}, []uint64{9, 4}, 6},
		{[]uint64{1, 5}, []uint64{3, 5}, []uint64{2, 5}, 0},
		{[]uint64{1, 5}, []uint64{3, 5}, []uint64{1, 5}, 0},
		{[]uint64{1, 5}, []uint64{3, 5}, []uint64{3, 5}, 0},
		{[]uint64{1, 5}, []uint64{3, 5}, []uint64{0, 5}, 1},
		{[]uint64{1, 5}, []uint64{3, 5}, []uint64{2, 0}, 5},
		{[]uint64{1, 5}, []uint64{3, 5}, []uint64{0, 9}, 4},
		{[]uint64{0}, []uint64{most}, []uint64{most}, 0},
		{[]uint64{0}, []uint64{0}, []uint64{most}, most},
		{[]uint64{most}, []uint64{most}, []uint64{0}, most},
		{[]uint64{most, 0}, []uint64{most, 0}, []uint64{0, most}, most},
		{[]uint64{1 << 63}, []uint64{most}, []uint64{1<<63 - 1}, 1},
		{same(16, 4), same(16, 6), same(16, 9), 3},
		{same(16, 4), same(16, 6), same(16, 0), 4},
	} {
		if far, e := FarBox(api.Box{Lo: c.lo, Hi: c.hi}, c.p); far != c.want || e != api.Fine {
			t.Error(c, far, e)
		}
	}
}

// P3.2: it is the least distance to a point in the box; Arg of an empty one.
func TestFarBoxIsTheLeast(t *testing.T) {
	for _, list := range [][][]uint64{grid(1, 8), grid(2, 4), points(1, ends()...), points(2, 0, 1, 1<<63, most)} {
		for _, b := range boxes(list) {
			for _, p := range list {
				// The nearest point's coordinates are p's or the corners', so that it is in the list, too.
				least, some := uint64(most), false
				for _, q := range list {
					if plainIn(b, q) {
						least, some = min(least, plainFar(p, q)), true
					}
				}
				far, e := FarBox(b, p)
				if some && (far != least || e != api.Fine) || !some && (far != 0 || e != api.Arg) {
					t.Fatal(b, p, far, e)
				}
			}
		}
	}
}

// P3.1, P3.2: Dim of a box that isn't right, and of a list that isn't a point with as many coordinates.
func TestNotRight(t *testing.T) {
	for _, lo := range lists() {
		for _, hi := range lists() {
			b := api.Box{Lo: lo, Hi: hi}
			checkOneBox(t, b)
			for _, p := range lists() {
				checkBoxAndPoint(t, b, p)
			}
		}
	}
}

func checkOneBox(t *testing.T, b api.Box) {
	t.Helper()
	want := api.Dim
	if isRight(b) {
		want = api.Fine
	}
	empty, e := Empty(b)
	volume, f := Volume(b)
	if empty || e != want || f != want || volume != 0 && want == api.Dim {
		t.Error(len(b.Lo), len(b.Hi), empty, e, volume, f)
	}
}

func checkBoxAndPoint(t *testing.T, b api.Box, p []uint64) {
	t.Helper()
	want := api.Dim
	if isRight(b) && len(p) == len(b.Lo) {
		want = api.Fine
	}
	in, e := In(b, p)
	far, f := FarBox(b, p)
	if e != want || f != want || far != 0 || in != (want == api.Fine) {
		t.Error(len(b.Lo), len(b.Hi), len(p), in, e, far, f)
	}
}

// P3.1: Meet's Dim, unless both are right, with as many.
func TestMeetRefuses(t *testing.T) {
	for _, aLo := range lists() {
		for _, aHi := range lists() {
			for _, bLo := range lists() {
				for _, bHi := range lists() {
					a, b := api.Box{Lo: aLo, Hi: aHi}, api.Box{Lo: bLo, Hi: bHi}
					want := api.Dim
					if isRight(a) && isRight(b) && len(aLo) == len(bLo) {
						want = api.Fine
					}
					if m, e := Meet(a, b); e != want || noBox(m) != (want == api.Dim) {
						t.Error(len(aLo), len(aHi), len(bLo), len(bHi), m, e)
					}
				}
			}
		}
	}
}

// P3.2: Around, Cell and Far of no points; Dim goes ahead of Arg.
func TestNoPoint(t *testing.T) {
	for _, p := range notPoints() {
		for _, n := range ends() {
			if b, e := Around(p, n); !noBox(b) || e != api.Dim {
				t.Error("around", len(p), n, b, e)
			}
		}
		for _, level := range append(notLevels(), -1, 0, 63) {
			if b, e := Cell(p, level); !noBox(b) || e != api.Dim {
				t.Error("cell", len(p), level, b, e)
			}
		}
	}
	for _, p := range lists() {
		for _, q := range lists() {
			want := api.Dim
			if isPoint(p) && len(p) == len(q) {
				want = api.Fine
			}
			if far, e := Far(p, q); far != 0 && want == api.Dim || e != want {
				t.Error("far", len(p), len(q), far, e)
			}
		}
	}
}

// P3.2: Cell's Arg, unless level is from -1 to 63.
func TestNoLevel(t *testing.T) {
	for k := 1; k <= api.MaxK; k++ {
		for _, level := range notLevels() {
			if b, e := Cell(same(k, most), level); !noBox(b) || e != api.Arg {
				t.Error(k, level, b, e)
			}
		}
	}
}

// P3.2: FarBox of an empty box: Arg, but Dim goes ahead of it.
func TestFarBoxOfEmpty(t *testing.T) {
	for k := 1; k <= api.MaxK; k++ {
		for i := range k {
			b := api.Box{Lo: same(k, 4), Hi: same(k, 4)}
			b.Lo[i] = most
			for _, c := range []uint64{0, 4, most} {
				if far, e := FarBox(b, same(k, c)); far != 0 || e != api.Arg {
					t.Error(k, i, c, far, e)
				}
			}
			for _, p := range append(notPoints(), same(k+1, 4), same(k-1, 4)) {
				if far, e := FarBox(b, p); far != 0 || e != api.Dim {
					t.Error(k, i, len(p), far, e)
				}
			}
		}
	}
	if far, e := FarBox(api.Box{Lo: same(17, 1), Hi: same(17, 0)}, same(17, 0)); far != 0 || e != api.Dim {
		t.Error(far, e)
	}
}

// R4: what is handed in stays as it is, and what is told is the caller's.
func TestNothingShared(t *testing.T) {
	p := []uint64{7, 12, most}
	a := api.Box{Lo: []uint64{1, 2, 3}, Hi: []uint64{4, 5, 6}}
	b := api.Box{Lo: []uint64{0, 3, 2}, Hi: []uint64{5, 4, 7}}
	told := []api.Box{mustMeet(t, a, a), mustMeet(t, a, b), mustAround(t, p, 0), mustAround(t, p, 2)}
	for level := -1; level <= 63; level++ {
		told = append(told, mustCell(t, p, level))
	}
	for i, m := range told {
		hi := slices.Clone(m.Hi)
		clear(m.Lo)
		clear(append(m.Lo, 1, 2, 3)[3:])
		if !slices.Equal(m.Hi, hi) {
			t.Error("both corners of", i, "have memory in common")
		}
		clear(m.Hi)
	}
	Empty(a)
	Volume(a)
	In(a, p)
	Far(p, a.Lo)
	FarBox(a, p)
	wantA := api.Box{Lo: []uint64{1, 2, 3}, Hi: []uint64{4, 5, 6}}
	wantB := api.Box{Lo: []uint64{0, 3, 2}, Hi: []uint64{5, 4, 7}}
	if !slices.Equal(p, []uint64{7, 12, most}) || !sameBox(a, wantA) || !sameBox(b, wantB) {
		t.Error(p, a, b)
	}
}
