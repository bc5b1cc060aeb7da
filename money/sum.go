package money

import (
	"cmp"

	"exchequer/api"
	"exchequer/wide"
)

// Add is the sum; ErrCurrency or ErrRange if one may not be, ErrCurrency if they are of two currencies, ErrOverflow if it is out of the bounds.
func (a Amount) Add(b Amount) (Amount, api.Errno) { return a.joined(b, wide.FromInt(a.Units).Add) }

// Sub is the difference; its errors are Add's.
func (a Amount) Sub(b Amount) (Amount, api.Errno) { return a.joined(b, wide.FromInt(a.Units).Sub) }

// Neg turns it over; its errors are Add's.
func (a Amount) Neg() (Amount, api.Errno) { return Amount{Cur: a.Cur}.Sub(a) }

// Cmp is -1, 0 or 1, as it is less, the same or greater; its errors are Add's.
func (a Amount) Cmp(b Amount) (int, api.Errno) {
	if _, e := a.beside(b); e != api.OK {
		return 0, e
	}
	return cmp.Compare(a.Units, b.Units), api.OK
}

// Sum is the sum of amounts of one currency; its errors are Add's, and only the sum of all may overflow.
func Sum(cur string, l []Amount) (Amount, api.Errno) {
	c, e := find(cur)
	if e != api.OK {
		return Amount{}, e
	}
	beside := Amount{Cur: c.Code}.beside
	var total wide.Int
	for _, a := range l {
		if _, e := beside(a); e != api.OK {
			return Amount{}, e
		}
		// The most amounts that a list may have are far from the bounds of wide.
		total, _ = total.Add(wide.FromInt(a.Units))
	}
	return c.amount(total)
}

// beside is the currency of both of two amounts; ErrCurrency or ErrRange if one of them may not be, ErrCurrency if they are of two.
func (a Amount) beside(b Amount) (Currency, api.Errno) {
	c, e := a.currency()
	if e != api.OK {
		return Currency{}, e
	}
	d, e := b.currency()
	if e != api.OK {
		return Currency{}, e
	}
	if c != d {
		return Currency{}, api.ErrCurrency
	}
	return c, api.OK
}

// joined is what comes of two amounts' units, whose first ones join has in itself.
func (a Amount) joined(b Amount, join func(wide.Int) (wide.Int, api.Errno)) (Amount, api.Errno) {
	c, e := a.beside(b)
	if e != api.OK {
		return Amount{}, e
	}
	n, e := join(wide.FromInt(b.Units))
	if e != api.OK {
		return Amount{}, e
	}
	return c.amount(n)
}
