// Package sat is layer 1: numbers that stop at the ends of int64 instead of wrapping round.
package sat

import (
	"cmp"
	"math"
	"math/bits"

	"chronobate/api"
)

const (
	least    = math.MinInt64
	greatest = math.MaxInt64
)

// Add is the sum of both; it stops.
func Add(a, b int64) int64 {
	// What a may be is cut down first, so that the sum itself can't wrap round.
	if below(b, 0) {
		return between(a, least-b, greatest) + b
	}
	return between(a, least, greatest-b) + b
}

// Sub is a without b; it stops.
func Sub(a, b int64) int64 {
	// Not Add(a, -b): the least number has no exact other sign.
	if below(b, 0) {
		return between(a, least, greatest+b) - b
	}
	return between(a, least+b, greatest) - b
}

// Neg is the number of the other sign; of the least one it is the greatest.
func Neg(a int64) int64 { return Sub(0, a) }

// Abs is how far a number is from 0; of the least one it is the greatest.
func Abs(a int64) int64 {
	if below(a, 0) {
		return Neg(a)
	}
	return a
}

// Clamp keeps a from lo to hi; lo goes ahead, where it is above hi.
func Clamp(a, lo, hi int64) int64 { return between(a, lo, hi) }

// Half is the floor of a / 2.
func Half(a int64) int64 {
	// A shift goes to the floor, where a division goes towards 0.
	return a >> 1
}

// Mid is the floor of half the sum of both.
func Mid(a, b int64) int64 {
	// The bits that both have count whole, those that one has count half: no sum is made that could wrap round.
	return (a & b) + Half(a^b)
}

// MulDiv is the floor of a * b / c; it stops. ErrArg is answered, if b is below 0, or c is below 1.
func MulDiv(a, b, c int64) (int64, api.Errno) {
	if below(b, 0) || below(c, 1) {
		return 0, api.ErrArg
	}
	quo, rem, fits := quotient(size(a), uint64(b), uint64(c))
	if below(a, 0) {
		return floorBelow(quo, rem, fits), api.OK
	}
	if !fits {
		return greatest, api.OK
	}
	return int64(quo), api.OK
}

// size is how far a number is from 0; unlike Abs it is exact for the least one, too.
func size(a int64) uint64 {
	if below(a, 0) {
		return -uint64(a)
	}
	return uint64(a)
}

// quotient is a * b / c, what is left over, and whether the quotient is an int64; if it isn't, both are 0. c isn't 0.
func quotient(a, b, c uint64) (quo, rem uint64, fits bool) {
	high, low := bits.Mul64(a, b)
	// Div64 panics, where the quotient has more than 64 bits.
	if !below(high, c) {
		return 0, 0, false
	}
	quo, rem = bits.Div64(high, low, c)
	if below(greatest, quo) {
		return 0, 0, false
	}
	return quo, rem, true
}

// floorBelow is the floor of a quotient below 0, of its size and what is left over.
func floorBelow(quo, rem uint64, fits bool) int64 {
	// The least number's size doesn't fit, but to stop there is the same.
	if !fits {
		return least
	}
	if rem != 0 {
		return -int64(quo) - 1
	}
	return -int64(quo)
}

// below tells whether a is less than b.
func below[T cmp.Ordered](a, b T) bool { return a < b }

// between is the one nearest to a of those from lo to hi; lo, if a is below it, even where lo is above hi.
func between[T cmp.Ordered](a, lo, hi T) T {
	if below(a, lo) {
		return lo
	}
	if below(hi, a) {
		return hi
	}
	return a
}
