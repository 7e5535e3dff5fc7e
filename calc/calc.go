// Package calc is layer 1: numbers that may not go beyond a bound. Its promises stand in shared/doc/01-calc.md.
package calc

import (
	"math/bits"
	"slices"

	"allotment/api"
)

// bound is the greatest number that Up, Down, Sum and Mul answer.
const bound uint64 = 1 << 40

// Pow2 says whether x is a power of two.
func Pow2(x uint64) bool { return bits.OnesCount64(x) == 1 }

// Up is the least multiple of a that isn't below x; a is a power of two.
func Up(x, a uint64) (uint64, api.Errno) {
	if !Pow2(a) {
		return 0, api.ErrArg
	}
	if x > bound { // asked ahead of the addition, which could wrap round otherwise
		return 0, api.ErrRange
	}
	return within((x + a - 1) &^ (a - 1))
}

// Down is the greatest multiple of a that isn't above x; a is a power of two.
func Down(x, a uint64) (uint64, api.Errno) {
	if !Pow2(a) {
		return 0, api.ErrArg
	}
	return within(x &^ (a - 1))
}

// within lets a number pass that isn't above the bound.
func within(x uint64) (uint64, api.Errno) {
	if x > bound {
		return 0, api.ErrRange
	}
	return x, api.OK
}

// Sum is all numbers together: 0 of none.
func Sum(l ...uint64) (uint64, api.Errno) {
	sum := uint64(0)
	for _, x := range l {
		if x > bound-sum { // held against what is left, since the sum itself could wrap round
			return 0, api.ErrRange
		}
		sum += x
	}
	return sum, api.OK
}

// Mul is the product of all numbers: 1 of none.
func Mul(l ...uint64) (uint64, api.Errno) {
	// A 0 makes up for any other factor, wherever it stands; without one the product never shrinks on its way.
	if slices.Contains(l, 0) {
		return 0, api.OK
	}
	product := uint64(1)
	for _, x := range l {
		if x > bound/product { // held against what is left, since the product itself could wrap round
			return 0, api.ErrRange
		}
		product *= x
	}
	return product, api.OK
}

// Most is the greatest of some numbers, which may be above the bound.
func Most(l ...uint64) (uint64, api.Errno) {
	if len(l) == 0 {
		return 0, api.ErrNone
	}
	return slices.Max(l), api.OK
}

// Least is the least of some numbers, which may be above the bound.
func Least(l ...uint64) (uint64, api.Errno) {
	if len(l) == 0 {
		return 0, api.ErrNone
	}
	return slices.Min(l), api.OK
}
