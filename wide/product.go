package wide

import (
	"math/bits"

	"exchequer/api"
)

// Mul is the product of two ints, which always fits.
func Mul(a, b int) Int {
	hi, lo := bits.Mul64(sizeOf(a), sizeOf(b))
	product, _ := size{hi, lo}.number((a < 0) != (b < 0))
	return product
}

// MulInt is the product with an int, ErrOverflow if it is out of the bounds.
func (a Int) MulInt(n int) (Int, api.Errno) {
	s, fits := a.size().times(sizeOf(n))
	if !fits {
		return Int{}, api.ErrOverflow
	}
	return s.number(a.below() != (n < 0))
}

// QuoRem is the quotient, rounded towards 0, and the rest; ErrZero if it is divided by 0, ErrOverflow if the quotient is out of the bounds.
func (a Int) QuoRem(d int) (Int, int, api.Errno) {
	if d == 0 {
		return Int{}, 0, api.ErrZero
	}
	s, r := a.size().by(sizeOf(d))
	quotient, e := s.number(a.below() != (d < 0))
	if e != api.OK {
		return Int{}, 0, e
	}
	rest := int(r)
	if a.below() {
		rest = -rest
	}
	return quotient, rest, api.OK
}

// DivEven is the nearest whole number to the quotient, of two the even one; ErrZero if it is divided by 0, ErrOverflow if it is out of the bounds.
func (a Int) DivEven(d int) (Int, api.Errno) {
	if d == 0 {
		return Int{}, api.ErrZero
	}
	n := sizeOf(d)
	s, rest := a.size().by(n)
	// The rest is below 2^63, so that twice it is a word.
	if twice := 2 * rest; twice > n || twice == n && s.Lo%2 == 1 {
		s, _ = s.plus(1)
	}
	return s.number(a.below() != (d < 0))
}
