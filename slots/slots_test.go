package slots

import (
	"maps"
	"math"
	"reflect"
	"slices"
	"testing"

	"pantile/api"
)

// mostThings is, of each K from 0 to 16, how many things sparse slots have at most.
var mostThings = [17]int{0, 1, 2, 4, 8, 16, 32, 128, 256, 512, 1024, 2048, 4096, 8192, 16384, 32768, 65536}

// plain is what is at addresses, kept in another way than what is tested.
type plain map[int]int

// version is slots, and what they must have as long as they are held.
type version struct {
	s    *Slots[int]
	want plain
}

// found is what From and UpTo tell.
type found struct {
	addr, x int
	ok      bool
}

// steps makes numbers that look like chance, and are the same in each run.
type steps uint64

func (n *steps) below(most int) int {
	*n = *n*6364136223846793005 + 1442695040888963407
	return int(uint64(*n)>>33) % most
}

func (w plain) rising() []int {
	return slices.Sorted(maps.Keys(w))
}

// things are those at the addresses, in that order.
func (w plain) things() []int {
	var list []int
	for _, addr := range w.rising() {
		list = append(list, w[addr])
	}
	return list
}

func (w plain) with(addr, x int) plain {
	more := maps.Clone(w)
	more[addr] = x
	return more
}

func (w plain) without(addr int) plain {
	less := maps.Clone(w)
	delete(less, addr)
	return less
}

// first is what the plain one has at the first of some places that is good.
func (w plain) first(places []int, good func(place int) bool) found {
	i := slices.IndexFunc(places, good)
	if i < 0 {
		return found{}
	}
	return found{places[i], w[places[i]], true}
}

// anyNumbers are numbers that no slots have as addresses, at their ends and elsewhere.
func anyNumbers(k int) []int {
	return []int{math.MinInt, math.MinInt + 1, -1 << 32, -1 << 16, -65, -64, -63, -2, -1, 1 << k, 1<<k + 1, 1 << (k + 1), 1<<16 + 1, 1<<16 + 3, 1 << 32, 1<<62 + 1, math.MaxInt - 63, math.MaxInt - 1, math.MaxInt}
}

// someAddrs are all addresses of few bits, else those at the ends, in the middle, and beside the given ones.
func someAddrs(k int, places []int) []int {
	if k <= 8 {
		return allAddrs(k)
	}
	list := []int{0, 1, 2, 63, 64, 65, 255, 256, 1<<(k-1) - 1, 1 << (k - 1), 1<<k - 2, 1<<k - 1}
	for i, addr := range places {
		if i < 20 || i > len(places)-20 {
			list = append(list, max(addr-1, 0), addr, min(addr+1, 1<<k-1))
		}
	}
	return list
}

func allAddrs(k int) []int {
	var list []int
	for addr := range 1 << k {
		list = append(list, addr)
	}
	return list
}

func mustNew[T any](t *testing.T, k int) *Slots[T] {
	t.Helper()
	s, e := New[T](k)
	if e != api.Fine || s == nil {
		t.Fatal("new", k, e)
	}
	return s
}

func mustPut[T any](t *testing.T, s *Slots[T], addr int, x T) *Slots[T] {
	t.Helper()
	out, e := s.Put(addr, x)
	if e != api.Fine || out == nil {
		t.Fatal("put", s.K(), addr, e)
	}
	return out
}

func mustDel[T any](t *testing.T, s *Slots[T], addr int) *Slots[T] {
	t.Helper()
	out, e := s.Del(addr)
	if e != api.Fine || out == nil {
		t.Fatal("del", s.K(), addr, e)
	}
	return out
}

// checkAll asks slots all that can be asked.
func checkAll(t *testing.T, s *Slots[int], k int, want plain) {
	t.Helper()
	places := want.rising()
	falling := slices.Clone(places)
	slices.Reverse(falling)
	if s.K() != k || s.Len() != len(want) || s.Dense() != (len(want) > mostThings[k]) {
		t.Fatal(k, places, "told", s.K(), s.Len(), s.Dense())
	}
	if !slices.Equal(s.Places(), places) || !slices.Equal(s.All(), want.things()) {
		t.Fatal(k, want, "told", s.Places(), s.All())
	}
	for _, addr := range slices.Concat(someAddrs(k, places), anyNumbers(k)) {
		x, ok := s.Get(addr)
		if y, is := want[addr]; x != y || ok != is {
			t.Fatal("get", k, addr, places, "told", x, ok)
		}
		if place, x, ok := s.From(addr); (found{place, x, ok}) != want.first(places, func(p int) bool { return p >= addr }) {
			t.Fatal("from", k, addr, places, "told", place, x, ok)
		}
		if place, x, ok := s.UpTo(addr); (found{place, x, ok}) != want.first(falling, func(p int) bool { return p <= addr }) {
			t.Fatal("up to", k, addr, places, "told", place, x, ok)
		}
	}
}

// P5.1: K at its ends and beyond.

func TestNew(t *testing.T) {
	for k := 1; k <= 16; k++ {
		checkAll(t, mustNew[int](t, k), k, plain{})
	}
	for _, k := range []int{math.MinInt, -64, -16, -2, -1, 0, 17, 18, 32, 63, 64, 65, 1<<32 + 1, math.MaxInt} {
		if s, e := New[int](k); s != nil || e != api.Arg {
			t.Error(k, s, e)
		}
	}
}

// P5.1: the chapter's example.

func TestExample(t *testing.T) {
	one := mustPut(t, mustNew[string](t, 1), 0, "here")
	if one.Dense() || one.Len() != 1 {
		t.Error("half is sparse")
	}
	both := mustPut(t, one, 1, "there")
	if !both.Dense() || both.Len() != 2 || one.Dense() {
		t.Error("both are dense")
	}
}

// P5.1, P5.2: all slots of few bits, each put and each del of them.

func TestAllOfFewBits(t *testing.T) {
	for k := 1; k <= 3; k++ {
		byThings := map[int]version{0: {mustNew[int](t, k), plain{}}}
		for has := 1; has < 1<<(1<<k); has++ {
			addr := slices.IndexFunc(allAddrs(k), func(a int) bool { return has>>a&1 == 1 })
			from := byThings[has&^(1<<addr)]
			byThings[has] = version{mustPut(t, from.s, addr, 10+addr), from.want.with(addr, 10+addr)}
		}
		for has, v := range byThings {
			checkAll(t, v.s, k, v.want)
			for _, addr := range allAddrs(k) {
				checkStep(t, k, v, addr, byThings[has|1<<addr].s, byThings[has&^(1<<addr)].s)
			}
			checkAll(t, v.s, k, v.want)
		}
	}
}

// checkStep puts and takes away at an address: what comes of it must be kept just as with, and as without.
func checkStep(t *testing.T, k int, v version, addr int, with, without *Slots[int]) {
	t.Helper()
	put := mustPut(t, v.s, addr, 10+addr)
	checkAll(t, put, k, v.want.with(addr, 10+addr))
	if !reflect.DeepEqual(put, with) {
		t.Fatal("put", k, v.want, addr, "is kept otherwise")
	}
	checkAll(t, mustPut(t, v.s, addr, 77), k, v.want.with(addr, 77))
	if _, is := v.want[addr]; !is {
		if s, e := v.s.Del(addr); s != nil || e != api.None {
			t.Fatal("del", k, v.want, addr, e)
		}
		return
	}
	del := mustDel(t, v.s, addr)
	checkAll(t, del, k, v.want.without(addr))
	if !reflect.DeepEqual(del, without) {
		t.Fatal("del", k, v.want, addr, "is kept otherwise")
	}
}

// P5.1: from sparse to dense, and back, at the very number.

func TestWaysToDenseAndBack(t *testing.T) {
	for k := 1; k <= 8; k++ {
		n := 1 << k
		seven := 7 % n // odd, so that each address comes once
		s, want := mustNew[int](t, k), plain{}
		for i := range n {
			addr := (i*seven + 3) % n
			s, want = mustPut(t, s, addr, i), want.with(addr, i)
			checkAll(t, s, k, want)
		}
		for i := range n {
			addr := (i*seven + 5) % n
			s, want = mustDel(t, s, addr), want.without(addr)
			checkAll(t, s, k, want)
		}
		if !reflect.DeepEqual(s, mustNew[int](t, k)) {
			t.Error(k, "no things are kept otherwise")
		}
	}
}

// P5.1, P5.2: slots from which others came stay as they were, however many come after.

func TestVersionsStay(t *testing.T) {
	for k := 1; k <= 16; k++ {
		chance := steps(k)
		versions := []version{{mustNew[int](t, k), plain{}}}
		for range 300 {
			from := versions[max(0, len(versions)-1-chance.below(3))]
			versions = append(versions, nextVersion(t, k, from, &chance))
		}
		for _, v := range versions {
			checkAll(t, v.s, k, v.want)
		}
	}
}

// nextVersion puts more often than it takes away, mostly beside others, as the addresses of great K are many.
func nextVersion(t *testing.T, k int, from version, chance *steps) version {
	t.Helper()
	addr := chance.below(1 << k)
	places := from.want.rising()
	if len(places) > 0 && chance.below(3) == 0 {
		addr = places[chance.below(len(places))]
		return version{mustDel(t, from.s, addr), from.want.without(addr)}
	}
	if len(places) > 0 && chance.below(4) == 0 {
		addr = min(places[chance.below(len(places))]+chance.below(2), 1<<k-1)
	}
	x := chance.below(1000) - 500
	return version{mustPut(t, from.s, addr, x), from.want.with(addr, x)}
}

func TestOthersOfTheSameSlots(t *testing.T) {
	for k := 1; k <= 7; k++ {
		for n := range 1 << k {
			s, want := mustNew[int](t, k), plain{}
			for addr := range n {
				s, want = mustPut(t, s, addr, -addr), want.with(addr, -addr)
			}
			a, b := mustPut(t, s, n, 1), mustPut(t, s, n, 2)
			c := mustPut(t, a, 0, 3)
			d := mustDel(t, b, n/2)
			checkAll(t, s, k, want)
			checkAll(t, a, k, want.with(n, 1))
			checkAll(t, b, k, want.with(n, 2))
			checkAll(t, c, k, want.with(n, 1).with(0, 3))
			checkAll(t, d, k, want.with(n, 2).without(n/2))
		}
	}
}

// P5.1: slots with the same things are kept alike, however they came about.

func TestKeptAlike(t *testing.T) {
	for k := 1; k <= 16; k++ {
		chance := steps(1000 + k)
		v := version{mustNew[int](t, k), plain{}}
		for range 200 {
			v = nextVersion(t, k, v, &chance)
			rising, falling := mustNew[int](t, k), mustNew[int](t, k)
			places := v.want.rising()
			for i, addr := range places {
				last := places[len(places)-1-i]
				rising, falling = mustPut(t, rising, addr, v.want[addr]), mustPut(t, falling, last, v.want[last])
			}
			if !reflect.DeepEqual(v.s, rising) || !reflect.DeepEqual(v.s, falling) {
				t.Fatal(k, v.want, "are kept otherwise")
			}
		}
	}
}

// P5.1, P5.2: K 16, with many things, and those at the ends.

func TestManyThings(t *testing.T) {
	s, want := mustNew[int](t, 16), plain{}
	for i := range 3000 {
		addr := i * 40503 % (1 << 16)
		s, want[addr] = mustPut(t, s, addr, i), i
	}
	s, want[0] = mustPut(t, s, 0, -1), -1
	s, want[1<<16-1] = mustPut(t, s, 1<<16-1, -2), -2
	checkAll(t, s, 16, want)
	for i := range 1500 {
		addr := i * 2 * 40503 % (1 << 16)
		s = mustDel(t, s, addr)
		delete(want, addr)
	}
	checkAll(t, s, 16, want)
}

// P5.2: any number as the address of From and UpTo, of slots with things at the ends, in the middle, and nowhere.

func TestAnyNumber(t *testing.T) {
	for k := 1; k <= 16; k++ {
		last := 1<<k - 1
		for _, places := range [][]int{{}, {0}, {last}, {0, last}, {last / 2}, {1, last - 1}} {
			s, want := mustNew[int](t, k), plain{}
			for _, addr := range places {
				s, want = mustPut(t, s, addr, addr+5), want.with(addr, addr+5)
			}
			checkAll(t, s, k, want)
		}
	}
	full := mustNew[int](t, 6)
	for addr := range 64 {
		full = mustPut(t, full, addr, addr)
	}
	checkAll(t, mustDel(t, full, 63), 6, plainFrom(0, 62))
	checkAll(t, mustDel(t, full, 0), 6, plainFrom(1, 63))
	checkAll(t, full, 6, plainFrom(0, 63))
}

// plainFrom has each address from one to another one, itself there.
func plainFrom(from, to int) plain {
	w := plain{}
	for addr := from; addr <= to; addr++ {
		w[addr] = addr
	}
	return w
}

// P5.1: wrong inputs, of sparse, of dense, and of no things; they change nothing.

func TestNoAddress(t *testing.T) {
	for k := 1; k <= 16; k++ {
		s, want := mustNew[int](t, k), plain{}
		for n := range 3 {
			for _, addr := range anyNumbers(k) {
				if addr >= 0 && addr < 1<<k {
					continue
				}
				if out, e := s.Put(addr, 1); out != nil || e != api.Arg {
					t.Error("put", k, n, addr, out, e)
				}
				if out, e := s.Del(addr); out != nil || e != api.Arg {
					t.Error("del", k, n, addr, out, e)
				}
				if x, ok := s.Get(addr); x != 0 || ok {
					t.Error("get", k, n, addr, x, ok)
				}
			}
			checkAll(t, s, k, want)
			addr := n % (1 << k)
			s, want = mustPut(t, s, addr, 9), want.with(addr, 9)
		}
	}
}

func TestDelNothing(t *testing.T) {
	for k := 1; k <= 16; k++ {
		empty := mustNew[int](t, k)
		ends := mustPut(t, mustPut(t, empty, 0, 1), 1<<k-1, 2)
		for _, addr := range someAddrs(k, nil) {
			if out, e := empty.Del(addr); out != nil || e != api.None {
				t.Error("empty", k, addr, out, e)
			}
			if addr == 0 || addr == 1<<k-1 {
				continue
			}
			if out, e := ends.Del(addr); out != nil || e != api.None {
				t.Error("ends", k, addr, out, e)
			}
		}
	}
}

// P5.1, P5.2: nil slots, and slots that New hasn't made.

func TestNil(t *testing.T) {
	var s *Slots[string]
	checkNothing(t, s)
	for _, addr := range slices.Concat(anyNumbers(1), allAddrs(2)) {
		if out, e := s.Put(addr, "x"); out != nil || e != api.Nil {
			t.Error("put", addr, out, e)
		}
		if out, e := s.Del(addr); out != nil || e != api.Nil {
			t.Error("del", addr, out, e)
		}
	}
}

func TestNotMade(t *testing.T) {
	s := new(Slots[string])
	checkNothing(t, s)
	for _, addr := range slices.Concat(anyNumbers(1), allAddrs(2)) {
		if out, e := s.Put(addr, "x"); out != nil || e != api.Arg {
			t.Error("put", addr, out, e)
		}
		if out, e := s.Del(addr); out != nil || e != api.Arg {
			t.Error("del", addr, out, e)
		}
	}
}

func checkNothing(t *testing.T, s *Slots[string]) {
	t.Helper()
	if s.K() != 0 || s.Len() != 0 || s.Dense() || len(s.Places()) != 0 || len(s.All()) != 0 {
		t.Error("told", s.K(), s.Len(), s.Dense(), s.Places(), s.All())
	}
	for _, addr := range slices.Concat(anyNumbers(1), allAddrs(2)) {
		x, ok := s.Get(addr)
		from, y, is := s.From(addr)
		upTo, z, has := s.UpTo(addr)
		if x != "" || ok || from != 0 || y != "" || is || upTo != 0 || z != "" || has {
			t.Error(addr, "told", x, ok, from, y, is, upTo, z, has)
		}
	}
}

// P5.2: what is told is the caller's.

func TestListsAreTheCallers(t *testing.T) {
	for k := 1; k <= 7; k++ {
		s, want := mustNew[int](t, k), plain{}
		for addr := range 1 << k {
			for range 2 {
				places, all := s.Places(), s.All()
				for i := range places {
					places[i], all[i] = -7, -8
				}
				_, _ = append(places, -9), append(all, -9)
			}
			checkAll(t, s, k, want)
			s, want = mustPut(t, s, addr, addr+1), want.with(addr, addr+1)
		}
	}
}

// P5.1: a thing is there, whatever it is: nil, zero, of no size, or such as can't be held against others.

func TestThingsOfAnyType(t *testing.T) {
	checkZeroThing[*int](t)
	checkZeroThing[any](t)
	checkZeroThing[struct{}](t)
	checkZeroThing[[]int](t)
	checkZeroThing[func()](t)
	checkZeroThing[[300]byte](t)
	a, b := new(int), new(int)
	s := mustPut(t, mustPut(t, mustNew[*int](t, 2), 3, a), 1, b)
	if !slices.Equal(s.All(), []*int{b, a}) {
		t.Error("other pointers than those that were put")
	}
	f := mustPut(t, mustNew[float64](t, 1), 1, math.NaN())
	if x, ok := f.Get(1); !ok || !math.IsNaN(x) {
		t.Error(x, ok)
	}
}

func checkZeroThing[T any](t *testing.T) {
	t.Helper()
	var zero T
	for _, k := range []int{1, 2, 6, 7, 16} {
		s := mustNew[T](t, k)
		for n := range min(1<<k, 200) {
			s = mustPut(t, s, n, zero)
			_, ok := s.Get(n)
			from, _, is := s.From(n)
			upTo, _, has := s.UpTo(n)
			if !ok || from != n || !is || upTo != n || !has || s.Len() != n+1 || len(s.Places()) != n+1 || len(s.All()) != n+1 {
				t.Fatal(k, n, ok, from, is, upTo, has, s.Len())
			}
			if _, ok := s.Get(n + 1); ok {
				t.Fatal(k, n, "something is there")
			}
		}
		for n := range min(1<<k, 200) {
			s = mustDel(t, s, n)
			if _, ok := s.Get(n); ok {
				t.Fatal(k, n, "something is left")
			}
		}
	}
}
