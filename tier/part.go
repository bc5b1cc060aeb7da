package tier

import (
	"exchequer/api"
	"exchequer/wide"
)

const (
	maxWhole      = 1 << 31  // the greatest whole that a part may be of
	maxMillionths = 10000000 // the most millionths of units
)

// Prorate is a part of a whole of units, to the nearest, halves to the even; ErrZero if the whole is 0, ErrRange if one of them is out of its bounds.
func Prorate(units, part, whole int) (int, api.Errno) {
	switch {
	case whole == 0:
		return 0, api.ErrZero
	case !isAmount(units) || part < 0 || part > whole || whole < 0 || whole > maxWhole:
		return 0, api.ErrRange
	}
	return quotient(wide.Mul(units, part), whole)
}

// Percent is millionths of units, to the nearest, halves to the even; ErrRange if one of them is out of its bounds, ErrOverflow if what comes is.
func Percent(units, millionths int) (int, api.Errno) {
	if !isAmount(units) || millionths < 0 || millionths > maxMillionths {
		return 0, api.ErrRange
	}
	return quotient(wide.Mul(units, millionths), million)
}

// isAmount: may an amount have that many units?
func isAmount(units int) bool { return -api.MaxUnits <= units && units <= api.MaxUnits }

// quotient is the nearest whole number, of two the even one, ErrOverflow if no amount may have that many units.
func quotient(n wide.Int, by int) (int, api.Errno) {
	// What is divided by is above 0, and what comes is no further from 0 than n.
	q, _ := n.DivEven(by)
	units, e := q.Int()
	if e != api.OK || !isAmount(units) {
		return 0, api.ErrOverflow
	}
	return units, api.OK
}
