package wide

import (
	"math/bits"

	"exchequer/api"
)

// size is how far a number is from 0: its highest bit, too, counts above 0.
type size Int

// size is how far it is from 0. The least comes round to itself, which as a size is right.
func (a Int) size() size {
	if a.below() {
		return size(a).turned()
	}
	return size(a)
}

// sizeOf is how far an int is from 0. The least comes round to itself, which as a size is right.
func sizeOf(n int) uint64 {
	if n < 0 {
		return -uint64(n)
	}
	return uint64(n)
}

// turned is what makes 0 together with it, the carry out of the upper word let go.
func (s size) turned() size {
	lo, borrow := bits.Sub64(0, s.Lo, 0)
	hi, _ := bits.Sub64(0, s.Hi, borrow)
	return size{hi, lo}
}

// number is the number that is that far from 0, on the side that is said; ErrOverflow if it is out of the bounds.
func (s size) number(below bool) (Int, api.Errno) {
	n := Int(s)
	if below {
		n = Int(s.turned())
	}
	if s != (size{}) && n.below() != below {
		return Int{}, api.ErrOverflow
	}
	return n, api.OK
}

// plus is the sum with a word; false if it doesn't fit.
func (s size) plus(n uint64) (size, bool) {
	lo, carry := bits.Add64(s.Lo, n, 0)
	hi, carry := bits.Add64(s.Hi, 0, carry)
	return size{hi, lo}, carry == 0
}

// times is the product with a word; false if it doesn't fit.
func (s size) times(n uint64) (size, bool) {
	carry, lo := bits.Mul64(s.Lo, n)
	over, upper := bits.Mul64(s.Hi, n)
	hi, more := bits.Add64(upper, carry, 0)
	return size{hi, lo}, over == 0 && more == 0
}

// by is the quotient by a word, which is not 0, and the rest.
func (s size) by(d uint64) (size, uint64) {
	lo, rest := bits.Div64(s.Hi%d, s.Lo, d)
	return size{s.Hi / d, lo}, rest
}
