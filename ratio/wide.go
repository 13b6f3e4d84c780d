package ratio

import (
	"math/bits"

	"evenhanded/api"
	"evenhanded/whole"
)

// wide is a number of 128 bits in two's complement: room for a sum of two products, each of a numerator and a denominator.
type wide struct {
	high int64
	low  uint64
}

func product(a, b int64) wide {
	high, low := whole.Product(a, b)
	return wide{high, low}
}

func plus(a, b wide) wide {
	low, carry := bits.Add64(a.low, b.low, 0)
	return wide{a.high + b.high + int64(carry), low}
}

// size answers the halves of w without its sign.
func (w wide) size() (uint64, uint64) {
	if w.high >= 0 {
		return uint64(w.high), w.low
	}
	low, borrow := bits.Sub64(0, w.low, 0)
	return -uint64(w.high) - borrow, low
}

// rest answers what is left of w without its sign when it is divided by d, which is above 0.
func (w wide) rest(d int64) int64 {
	high, low := w.size()
	return int64(bits.Rem64(high, low, uint64(d)))
}

// by answers w by d, which is above 0 and divides it; ErrOver: it is no int64.
func (w wide) by(d int64) (int64, api.Errno) {
	high, low := w.size()
	if high >= uint64(d) {
		return 0, api.ErrOver // not even a uint64, which Div64 would not bear
	}
	size, _ := bits.Div64(high, low, uint64(d))
	n := int64(size)
	if w.high < 0 {
		n = -n
	}
	// A size that is too great shows as the wrong sign; that of the least int64 does not, and is right.
	if (n < 0) != (w.high < 0) {
		return 0, api.ErrOver
	}
	return n, api.OK
}
