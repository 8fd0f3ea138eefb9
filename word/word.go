// Package word is layer 1: see shared/doc/01-word.md.
package word

import (
	"math/bits"

	"pavior/api"
)

const (
	wordBits  = 64
	maxNumber = 1 << 40
	maxOrder  = 20
	maxCut    = 1 << 20
)

// Field is a field: P1.1.
func Field(w uint64, at, n int) (uint64, error) {
	if !mayField(at, n) {
		return 0, api.ErrArg
	}
	return w >> at & lowBits(n), nil
}

// Put puts one: P1.1.
func Put(w uint64, at, n int, v uint64) (uint64, error) {
	if !mayField(at, n) {
		return 0, api.ErrArg
	}
	if v > lowBits(n) {
		return 0, api.ErrLong
	}
	return w&^(lowBits(n)<<at) | v<<at, nil
}

// Order is a power's: P1.2.
func Order(n int) (int, error) {
	if n < 1 || n&(n-1) != 0 {
		return 0, api.ErrArg
	}
	return bits.TrailingZeros64(uint64(n)), nil
}

// Down aligns downwards: P1.2.
func Down(n, order int) (int, error) {
	if !mayAlign(n, order) {
		return 0, api.ErrArg
	}
	return alignDown(n, order), nil
}

// Up aligns upwards: P1.2.
func Up(n, order int) (int, error) {
	if !mayAlign(n, order) {
		return 0, api.ErrArg
	}
	return alignDown(n+(1<<order)-1, order), nil
}

// Cut cuts numbers into runs: P1.3.
func Cut(from, to int) ([][2]int, error) {
	if from < 0 || to < from || to > maxCut {
		return nil, api.ErrArg
	}
	var runs [][2]int
	for from < to {
		order := longest(from, to)
		runs = append(runs, [2]int{from, order})
		from += 1 << order
	}
	return runs, nil
}

// mayField compares at with what n leaves, since at and n together might wrap round.
func mayField(at, n int) bool {
	return at >= 0 && n >= 1 && n <= wordBits && at <= wordBits-n
}

func mayAlign(n, order int) bool {
	return n >= 0 && n <= maxNumber && order >= 0 && order <= maxOrder
}

// lowBits is a word whose n lowest bits are set. It shifts downwards, so that n may be 64.
func lowBits(n int) uint64 {
	return ^uint64(0) >> (wordBits - n)
}

func alignDown(n, order int) int {
	return n >> order << order
}

// longest is the order of the longest run that begins at from and ends at to or ahead of it; from is below to.
func longest(from, to int) int {
	aligned := bits.TrailingZeros64(uint64(from))
	fits := bits.Len64(uint64(to-from)) - 1
	return min(aligned, fits, maxOrder)
}
