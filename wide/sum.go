package wide

import (
	"math/bits"

	"exchequer/api"
)

// Add is the sum, ErrOverflow if it is out of the bounds.
func (a Int) Add(b Int) (Int, api.Errno) {
	lo, carry := bits.Add64(a.Lo, b.Lo, 0)
	hi, _ := bits.Add64(a.Hi, b.Hi, carry)
	sum := Int{hi, lo}
	// Only a sum of two on the same side of 0 can leave the bounds, and then it comes round to the other side.
	if a.below() == b.below() && sum.below() != a.below() {
		return Int{}, api.ErrOverflow
	}
	return sum, api.OK
}

// Sub is the difference, ErrOverflow if it is out of the bounds.
func (a Int) Sub(b Int) (Int, api.Errno) {
	lo, borrow := bits.Sub64(a.Lo, b.Lo, 0)
	hi, _ := bits.Sub64(a.Hi, b.Hi, borrow)
	rest := Int{hi, lo}
	if a.below() != b.below() && rest.below() != a.below() {
		return Int{}, api.ErrOverflow
	}
	return rest, api.OK
}

// Neg turns it over, ErrOverflow at the least.
func (a Int) Neg() (Int, api.Errno) { return Int{}.Sub(a) }
