// Package whole reckons with int64, and says so where it cannot: see DOC.md, chapter 1.
package whole

import (
	"cmp"
	"math"
	"math/bits"

	"evenhanded/api"
)

// Add answers the sum of a and b; ErrOver: it is no int64.
func Add(a, b int64) (int64, api.Errno) {
	sum := a + b
	// Only two numbers of one sign can run over, and then the sum's sign is the other.
	if (a < 0) == (b < 0) && (sum < 0) != (a < 0) {
		return 0, api.ErrOver
	}
	return sum, api.OK
}

// Mul answers the product of a and b; ErrOver: it is no int64.
func Mul(a, b int64) (int64, api.Errno) {
	high, low := Product(a, b)
	// The high half of what fits repeats the sign of the low half.
	if high != int64(low)>>63 {
		return 0, api.ErrOver
	}
	return int64(low), api.OK
}

// Gcd answers the greatest number above 0 that divides both; 0: there is none, or it is no int64.
func Gcd(a, b int64) int64 {
	x, y := size(a), size(b)
	for y != 0 {
		x, y = y, x%y
	}
	if x > math.MaxInt64 {
		return 0
	}
	return int64(x)
}

// Lcm answers the least multiple of two numbers above 0; ErrArg: one is not; ErrOver: it is no int64.
func Lcm(a, b int64) (int64, api.Errno) {
	if a < 1 || b < 1 {
		return 0, api.ErrArg
	}
	// Dividing ahead keeps the product from running over where the multiple does not.
	return Mul(a/Gcd(a, b), b)
}

// Floor answers a by b, rounded down; ErrArg: b is 0; ErrOver: it is no int64.
func Floor(a, b int64) (int64, api.Errno) {
	q, rest, err := divide(a, b)
	if rest && (a < 0) != (b < 0) {
		q--
	}
	return q, err
}

// Ceil answers a by b, rounded up; ErrArg: b is 0; ErrOver: it is no int64.
func Ceil(a, b int64) (int64, api.Errno) {
	q, rest, err := divide(a, b)
	if rest && (a < 0) == (b < 0) {
		q++
	}
	return q, err
}

// Cross answers -1, 0 or 1: a times b is less than, as much as, more than c times d.
func Cross(a, b, c, d int64) int {
	high, low := Product(a, b)
	otherHigh, otherLow := Product(c, d)
	if high != otherHigh {
		return cmp.Compare(high, otherHigh)
	}
	return cmp.Compare(low, otherLow)
}

// Product answers both halves of the product of a and b, of 128 bits in two's complement: for layers above, whose sums of products are no int64 though what comes of them is one.
func Product(a, b int64) (int64, uint64) {
	high, low := bits.Mul64(uint64(a), uint64(b))
	// Read without a sign, a number below 0 is 2^64 too great: the other factor is then once too often in the high half.
	if a < 0 {
		high -= uint64(b)
	}
	if b < 0 {
		high -= uint64(a)
	}
	return int64(high), low
}

// divide answers a by b, rounded towards 0, and whether something is left.
func divide(a, b int64) (int64, bool, api.Errno) {
	if b == 0 {
		return 0, false, api.ErrArg
	}
	if a == math.MinInt64 && b == -1 {
		return 0, false, api.ErrOver
	}
	return a / b, a%b != 0, api.OK
}

// size answers a without its sign; as uint64, since that of the least int64 is no int64.
func size(a int64) uint64 {
	if a < 0 {
		return -uint64(a)
	}
	return uint64(a)
}
