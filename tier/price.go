package tier

import (
	"slices"

	"exchequer/api"
	"exchequer/wide"
)

// million is how many millionths a unit has.
const million = 1000000

// Tiered prices each part of a quantity at its own tier's price; Check's error, ErrRange if the quantity is out of its bounds, ErrOverflow if the units are.
func Tiered(l []Tier, qty int) (int, api.Errno) { return listed(l, qty, byTiers) }

// Volume prices all of a quantity at the price of the tier in which it lies; its errors are Tiered's.
func Volume(l []Tier, qty int) (int, api.Errno) { return listed(l, qty, byVolume) }

// Flat prices all of a quantity at one price; ErrRange if one of them is out of its bounds, ErrOverflow if the units are.
func Flat(price, qty int) (int, api.Errno) {
	if !isBounded(price) {
		return 0, api.ErrRange
	}
	return rounded(qty, func(qty int) wide.Int { return wide.Mul(qty, price) })
}

// listed prices a quantity by a list of tiers that may be.
func listed(l []Tier, qty int, pricing func(l []Tier, qty int) wide.Int) (int, api.Errno) {
	if e := Check(l); e != api.OK {
		return 0, e
	}
	return rounded(qty, func(qty int) wide.Int { return pricing(l, qty) })
}

// byTiers is the millionths of a quantity whose parts are priced each by its own tier.
func byTiers(l []Tier, qty int) wide.Int {
	var total wide.Int
	from := 0
	for _, t := range l {
		to := t.reach(qty)
		// The parts are no more than the quantity, so that the total is far from the bounds of wide.
		total, _ = total.Add(wide.Mul(to-from, t.Price))
		from = to
	}
	return total
}

// byVolume is the millionths of a quantity that lies in one tier.
func byVolume(l []Tier, qty int) wide.Int {
	// The last tier has no end, so that there always is one.
	i := slices.IndexFunc(l, func(t Tier) bool { return t.reach(qty) == qty })
	return wide.Mul(qty, l[i].Price)
}

// rounded is the whole units of what a quantity is priced at in millionths.
func rounded(qty int, pricing func(qty int) wide.Int) (int, api.Errno) {
	if !isBounded(qty) {
		return 0, api.ErrRange
	}
	return quotient(pricing(qty), million)
}
