package tier_test

import (
	"math/rand/v2"
	"slices"
	"testing"

	"exchequer/api"
	"exchequer/tier"
)

// never holds a row of answers to never being less: once one overflows, all behind it do.
func never(t *testing.T, what string, quantities []int, price func(qty int) (int, api.Errno)) {
	t.Helper()
	was, overflown := 0, false
	for _, qty := range quantities {
		n, e := price(qty)
		if e != api.OK && e != api.ErrOverflow || e == api.OK && (overflown || n < was) {
			t.Errorf("%s %d of %v: %d, %d, ahead %d", what, qty, quantities, n, e, was)
		}
		was, overflown = n, e == api.ErrOverflow
	}
}

// quantities are some that rise, those next to the ends of tiers among them.
func quantities(r *rand.Rand, l []tier.Tier) []int {
	row := []int{0, most}
	for _, x := range l {
		row = append(row, x.UpTo, x.UpTo/2, min(most, x.UpTo+1), max(0, x.UpTo-1))
	}
	for range 10 {
		row = append(row, upTo(r, most), r.IntN(100))
	}
	slices.Sort(row)
	return row
}

// TestP14_6NeverLess prices rising quantities by tiers and flat.
func TestP14_6NeverLess(t *testing.T) {
	r := rand.New(rand.NewPCG(14, 6))
	for range 1000 {
		for _, l := range [][]tier.Tier{anyList(r, 50, 3000000), anyList(r, most, most), anyList(r, most, 1<<32)} {
			row := quantities(r, l)
			never(t, "Tiered", row, func(qty int) (int, api.Errno) { return tier.Tiered(l, qty) })
			price := l[0].Price
			never(t, "Flat", row, func(qty int) (int, api.Errno) { return tier.Flat(price, qty) })
			never(t, "Flat by price", row, func(qty int) (int, api.Errno) { return tier.Flat(qty, price) })
		}
	}
}

// TestP14_6Alone prices by one tier alone: all three are the same, faults included.
func TestP14_6Alone(t *testing.T) {
	alone := func(price, qty int) {
		t.Helper()
		want, bad := tier.Flat(price, qty)
		n, e := tier.Tiered(of(0, price), qty)
		answers(t, "Tiered", n, e, want, bad)
		n, e = tier.Volume(of(0, price), qty)
		answers(t, "Volume", n, e, want, bad)
	}
	for _, price := range edges() {
		for _, qty := range edges() {
			alone(price, qty)
		}
	}
	r := rand.New(rand.NewPCG(14, 61))
	for range 10000 {
		alone(upTo(r, most), upTo(r, most))
	}
}

// TestP14_6Alike prices by tiers whose prices are all the same, which is flat.
func TestP14_6Alike(t *testing.T) {
	r := rand.New(rand.NewPCG(14, 62))
	for range 2000 {
		l := anyList(r, most, most)
		price := upTo(r, []int{most, 3000000, 1 << 30}[r.IntN(3)])
		for i := range l {
			l[i].Price = price
		}
		for _, qty := range quantities(r, l) {
			want, bad := tier.Flat(price, qty)
			n, e := tier.Tiered(l, qty)
			answers(t, "Tiered", n, e, want, bad)
			n, e = tier.Volume(l, qty)
			answers(t, "Volume", n, e, want, bad)
		}
	}
}

// TestP14_6ItsTier prices by volume, which is flat at the price of the tier in which the quantity lies.
func TestP14_6ItsTier(t *testing.T) {
	r := rand.New(rand.NewPCG(14, 63))
	for range 2000 {
		l := anyList(r, most, []int{most, 3000000, 1 << 30}[r.IntN(3)])
		for i, x := range l {
			// The lowest quantity of a tier, one within it and the highest one.
			from, to := 0, x.UpTo
			if i > 0 {
				from = l[i-1].UpTo + 1
			}
			if to == 0 {
				to = most
			}
			for _, qty := range []int{from, (from + to) / 2, to} {
				if qty < from || qty > to {
					continue
				}
				want, bad := tier.Flat(x.Price, qty)
				n, e := tier.Volume(l, qty)
				answers(t, "Volume", n, e, want, bad)
			}
		}
	}
}

// cut is parts that sum up to a whole, some of them 0.
func cut(r *rand.Rand, of, n int) []int {
	ends := []int{0, of}
	for range n - 1 {
		ends = append(ends, r.IntN(of+1))
	}
	slices.Sort(ends)
	var parts []int
	for i, end := range ends[1:] {
		parts = append(parts, end-ends[i])
	}
	return parts
}

// TestP14_7Parts prorates by parts that sum up to the whole: what comes differs by less than there are parts.
func TestP14_7Parts(t *testing.T) {
	r := rand.New(rand.NewPCG(14, 7))
	for range 20000 {
		of := 1 + upTo(r, whole-1)
		units := upTo(r, api.MaxUnits) - upTo(r, api.MaxUnits)
		if r.IntN(2) == 0 {
			of, units = 1+r.IntN(40), r.IntN(200)-100
		}
		parts := cut(r, of, 1+r.IntN(12))
		off := units
		for _, part := range parts {
			n, e := tier.Prorate(units, part, of)
			if e != api.OK {
				t.Fatalf("Prorate %d %d %d: %d", units, part, of, e)
			}
			off -= n
		}
		if off <= -len(parts) || off >= len(parts) {
			t.Errorf("%d by %v: %d are left", units, parts, off)
		}
	}
}

// TestP14_7Whole prorates by the whole and by 0.
func TestP14_7Whole(t *testing.T) {
	r := rand.New(rand.NewPCG(14, 71))
	wholes := []int{1, 2, 3, 30, 31, 365, 366, whole - 1, whole}
	for range 2000 {
		wholes = append(wholes, 1+upTo(r, whole-1))
	}
	for _, of := range wholes {
		for _, units := range []int{0, 1, -1, 99, -100, api.MaxUnits, -api.MaxUnits, api.MaxUnits - 1, upTo(r, api.MaxUnits), -upTo(r, api.MaxUnits)} {
			n, e := tier.Prorate(units, of, of)
			answers(t, "Prorate", n, e, units, api.OK)
			n, e = tier.Prorate(units, 0, of)
			answers(t, "Prorate", n, e, 0, api.OK)
		}
	}
}

// TestP14_7ThereAndBack tells lists and reads them again.
func TestP14_7ThereAndBack(t *testing.T) {
	r := rand.New(rand.NewPCG(14, 72))
	back := func(l []tier.Tier) {
		t.Helper()
		s, e := tier.Format(l)
		got, f := tier.Parse(s)
		if e != api.OK || f != api.OK || !slices.Equal(got, l) {
			t.Errorf("%v: %q, %d, %v, %d", l, s, e, got, f)
		}
	}
	for n := 1; n <= api.MaxTiers; n++ {
		back(many(n))
		// The longest text that tiers have.
		var l []tier.Tier
		for i := range n - 1 {
			l = append(l, tier.Tier{UpTo: most - n + i, Price: most})
		}
		back(append(l, tier.Tier{Price: most}))
	}
	for range 5000 {
		back(anyList(r, most, most))
		back(anyList(r, 30, 30))
	}
}
