// Package zbits is layer 1: points as bits, level by level. Its chapter is doc/01-zbits.md.
package zbits

import (
	"math/bits"

	"pantile/api"
)

// topLevel is the highest place of a bit in a coordinate.
const topLevel = 63

// Right tells whether p is a point: it has 1 to MaxK coordinates.
func Right(p []uint64) bool {
	return len(p) >= 1 && len(p) <= api.MaxK
}

// Addr tells the address of a point at a level.
func Addr(p []uint64, level int) (int, api.Code) {
	if !Right(p) {
		return 0, api.Dim
	}
	if !isLevel(level) {
		return 0, api.Arg
	}
	return addrAt(p, level), api.Fine
}

// Part tells the level at which two points part, -1 if they are the same.
func Part(p, q []uint64) (int, api.Code) {
	if !alike(p, q) {
		return 0, api.Dim
	}
	return partLevel(p, q), api.Fine
}

// Cmp tells which one of two points comes first in the z-order: -1 if p does, 1 if q does, 0 if they are the same.
func Cmp(p, q []uint64) (int, api.Code) {
	if !alike(p, q) {
		return 0, api.Dim
	}
	level := partLevel(p, q)
	if level < 0 {
		return 0, api.Fine
	}
	if addrAt(p, level) < addrAt(q, level) {
		return -1, api.Fine
	}
	return 1, api.Fine
}

// Cut tells a point without its bits at a level and below; at level -1 it keeps all of them.
func Cut(p []uint64, level int) ([]uint64, api.Code) {
	if !Right(p) {
		return nil, api.Dim
	}
	if level != -1 && !isLevel(level) {
		return nil, api.Arg
	}
	return cutAt(p, level), api.Fine
}

// Place tells a point cut at a level, with another address there.
func Place(p []uint64, level, addr int) ([]uint64, api.Code) {
	if !Right(p) {
		return nil, api.Dim
	}
	if !isLevel(level) || addr < 0 || addr >= 1<<len(p) {
		return nil, api.Arg
	}
	q := cutAt(p, level)
	last := len(q) - 1
	for i := range q {
		// The first coordinate has the address's highest bit.
		q[i] |= uint64(addr>>(last-i)&1) << level
	}
	return q, api.Fine
}

func isLevel(level int) bool {
	return level >= 0 && level <= topLevel
}

// alike tells whether both are points with as many coordinates.
func alike(p, q []uint64) bool {
	return Right(p) && len(p) == len(q)
}

// addrAt is Addr of a point and a level that are known to be right.
func addrAt(p []uint64, level int) int {
	addr := 0
	for _, c := range p {
		addr = addr<<1 | int(c>>level&1)
	}
	return addr
}

// partLevel is Part of points that are known to be alike.
func partLevel(p, q []uint64) int {
	var unlike uint64
	for i, c := range p {
		unlike |= c ^ q[i]
	}
	return bits.Len64(unlike) - 1
}

// cutAt is Cut of a point and a level, or -1, that are known to be right.
func cutAt(p []uint64, level int) []uint64 {
	// A shift by all 64 places leaves 0, so that nothing is kept above the top level.
	keep := ^uint64(0) << (level + 1)
	q := make([]uint64, len(p))
	for i, c := range p {
		q[i] = c & keep
	}
	return q
}
