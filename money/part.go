package money

import (
	"cmp"
	"slices"

	"exchequer/api"
	"exchequer/wide"
)

// maxWeight is the greatest weight of an allocation.
const maxWeight = 1 << 31

// Ratio is it times num by den, rounded to the nearest, halves to the even; its own error if it may not be, ErrZero if den is 0, ErrOverflow if it is out of the bounds.
func (a Amount) Ratio(num, den int) (Amount, api.Errno) {
	c, e := a.currency()
	if e != api.OK {
		return Amount{}, e
	}
	n, e := wide.Mul(a.Units, num).DivEven(den)
	if e != api.OK {
		return Amount{}, e
	}
	return c.amount(n)
}

// share is a part that is being made: how far from 0 it is, and what its rounding lost, in parts of the weights' sum.
type share struct{ units, lost int }

// Allocate parts it by weights, without a unit lost; its own error if it may not be, ErrMany, ErrZero or ErrRange if the weights may not be.
func (a Amount) Allocate(weights []int) ([]Amount, api.Errno) {
	c, e := a.currency()
	if e != api.OK {
		return nil, e
	}
	total, e := totalOf(weights)
	if e != api.OK {
		return nil, e
	}
	size, sign := a.Units, 1
	if size < 0 {
		size, sign = -size, -1
	}
	parts := make([]Amount, len(weights))
	for i, s := range allocated(size, weights, total) {
		parts[i] = Amount{sign * s.units, c.Code}
	}
	return parts, api.OK
}

// totalOf is the sum of weights; ErrMany, ErrZero or ErrRange if they may not be.
func totalOf(weights []int) (int, api.Errno) {
	if len(weights) > api.MaxWeights {
		return 0, api.ErrMany
	}
	if len(weights) == 0 {
		return 0, api.ErrZero
	}
	total := 0
	for _, w := range weights {
		if w < 0 || w > maxWeight {
			return 0, api.ErrRange
		}
		total += w
	}
	if total == 0 {
		return 0, api.ErrZero
	}
	return total, api.OK
}

// allocated parts a size by weights that sum up to total.
func allocated(size int, weights []int, total int) []share {
	l := make([]share, len(weights))
	left := size
	for i, w := range weights {
		l[i] = shareOf(size, w, total)
		left -= l[i].units
	}
	// What was lost sums up to the units that are left, each loss less than one: so they are fewer than the parts that lost, and none of weight 0 gets one.
	for _, i := range byLoss(l)[:left] {
		l[i].units++
	}
	return l
}

// shareOf is what a weight has of a size, rounded towards 0.
func shareOf(size, weight, total int) share {
	quotient, lost, _ := wide.Mul(size, weight).QuoRem(total)
	// A weight is no greater than the sum, so that the quotient is no greater than the size.
	units, _ := quotient.Int()
	return share{units, lost}
}

// byLoss is the places of shares, the one that lost most first, of several the one that stands first.
func byLoss(l []share) []int {
	places := make([]int, len(l))
	for i := range places {
		places[i] = i
	}
	slices.SortStableFunc(places, func(i, j int) int { return cmp.Compare(l[j].lost, l[i].lost) })
	return places
}
