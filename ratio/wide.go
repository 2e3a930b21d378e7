package ratio

import (
	"cmp"
	"math/bits"

	"surtitle/api"
)

// wide is a whole number of 128 bits, below 0 by its complement: what is reckoned of right ratios on the way always fits.
type wide struct {
	hi, lo uint64
}

// widen tells a number as a wide one.
func widen(k int64) wide { return wide{hi: uint64(k >> 63), lo: uint64(k)} }

// narrow tells a wide number as one from -MaxNum to MaxNum, if it is one.
func (n wide) narrow() (int64, bool) {
	k := int64(n.lo)
	if n != widen(k) || size(k) > api.MaxNum {
		return 0, false
	}
	return k, true
}

// product tells the product.
func product(a, b int64) wide {
	hi, lo := bits.Mul64(size(a), size(b))
	if (a < 0) != (b < 0) {
		return wide{hi, lo}.negative()
	}
	return wide{hi, lo}
}

func (n wide) plus(m wide) wide {
	lo, carry := bits.Add64(n.lo, m.lo, 0)
	return wide{hi: n.hi + m.hi + carry, lo: lo}
}

func (n wide) flipped() wide { return wide{hi: ^n.hi, lo: ^n.lo} }

func (n wide) negative() wide { return n.flipped().plus(widen(1)) }

// floor tells the greatest whole number not above n / d.
func (n wide) floor(d uint64) wide {
	if int64(n.hi) < 0 {
		// The flipped number is -1 - n, and so is the flipped answer.
		return n.flipped().floor(d).flipped()
	}
	lo, _ := bits.Div64(n.hi%d, n.lo, d)
	return wide{hi: n.hi / d, lo: lo}
}

// rest tells what n is above d times that.
func (n wide) rest(d uint64) uint64 {
	// It is below d: what wraps round on the way does no harm.
	return n.lo - n.floor(d).lo*d
}

// compare tells -1, 0, 1.
func (n wide) compare(m wide) int {
	return cmp.Or(cmp.Compare(int64(n.hi), int64(m.hi)), cmp.Compare(n.lo, m.lo))
}

// size tells a number without its sign.
func size(k int64) uint64 {
	if k < 0 {
		return -uint64(k)
	}
	return uint64(k)
}

// divisor tells the greatest number that divides both.
func divisor(a, b uint64) uint64 {
	for b != 0 {
		a, b = b, a%b
	}
	return a
}
