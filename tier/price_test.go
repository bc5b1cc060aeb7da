package tier_test

import (
	"math"
	"math/rand/v2"
	"testing"

	"exchequer/api"
	"exchequer/tier"
)

// TestP14_2Examples is the chapter's examples.
func TestP14_2Examples(t *testing.T) {
	n, e := tier.Tiered(list(), 250)
	answers(t, "Tiered 250", n, e, 400, api.OK)
	n, e = tier.Volume(list(), 250)
	answers(t, "Volume 250", n, e, 250, api.OK)
	n, e = tier.Volume(list(), 200)
	answers(t, "Volume 200", n, e, 300, api.OK)
	n, e = tier.Tiered(list(), 0)
	answers(t, "Tiered 0", n, e, 0, api.OK)
	n, e = tier.Flat(500000, 5)
	answers(t, "Flat 5", n, e, 2, api.OK)
	n, e = tier.Flat(500000, 3)
	answers(t, "Flat 3", n, e, 2, api.OK)
	n, e = tier.Flat(1, 1)
	answers(t, "Flat 1", n, e, 0, api.OK)
}

// TestP14_2Ends writes out quantities at the ends of tiers: an end lies in the tier that ends with it.
func TestP14_2Ends(t *testing.T) {
	for _, x := range []struct{ qty, tiered, volume int }{
		{0, 0, 0}, {1, 2, 2}, {99, 198, 198}, {100, 200, 200}, {101, 202, 152}, {102, 203, 153}, {199, 348, 298}, {200, 350, 300}, {201, 351, 201}, {1000, 1150, 1000}, {most, most + 150, most},
	} {
		n, e := tier.Tiered(list(), x.qty)
		answers(t, "Tiered", n, e, x.tiered, api.OK)
		n, e = tier.Volume(list(), x.qty)
		answers(t, "Volume", n, e, x.volume, api.OK)
	}
	// The prices of 20 tiers are all unlike, so that each place tells.
	for _, x := range []struct{ qty, tiered, volume int }{{1, 0, 0}, {2, 1, 2}, {3, 3, 6}, {18, 153, 306}, {19, 171, 342}, {20, 171, 0}, {1 << 20, 178, 7}} {
		n, e := tier.Tiered(many(20), x.qty)
		answers(t, "Tiered", n, e, x.tiered, api.OK)
		n, e = tier.Volume(many(20), x.qty)
		answers(t, "Volume", n, e, x.volume, api.OK)
	}
	n, e := tier.Tiered(of(most, 3000000, 0, 5000000), most)
	answers(t, "Tiered", n, e, 3*most, api.OK)
	n, e = tier.Volume(of(most, 3000000, 0, 5000000), most)
	answers(t, "Volume", n, e, 3*most, api.OK)
}

// TestP14_2Once prices parts that are each less than a half: the sum alone is rounded.
func TestP14_2Once(t *testing.T) {
	for _, x := range []struct {
		l                   []tier.Tier
		qty, tiered, volume int
	}{
		{of(1, 400000, 2, 300000, 0, 200000), 1, 0, 0},
		{of(1, 400000, 2, 300000, 0, 200000), 2, 1, 1},
		{of(1, 400000, 2, 300000, 0, 200000), 3, 1, 1},
		{of(1, 400000, 2, 300000, 0, 300001), 4, 1, 1},
		{of(1, 499999, 2, 1, 0, 499999), 2, 0, 0},
		{of(1, 499999, 2, 1, 0, 500001), 3, 1, 2},
		{of(1, 499999, 2, 1, 0, 1000000), 3, 2, 3},
		{of(1, 600000, 2, 600000, 0, 600000), 2, 1, 1},
		{of(1, 600000, 2, 900000, 0, 0), 2, 2, 2},
		{of(1, 1500000, 2, 1000000, 0, 0), 2, 2, 2},
		{of(1, 1500000, 2, 2000000, 0, 0), 2, 4, 4},
	} {
		n, e := tier.Tiered(x.l, x.qty)
		answers(t, "Tiered", n, e, x.tiered, api.OK)
		n, e = tier.Volume(x.l, x.qty)
		answers(t, "Volume", n, e, x.volume, api.OK)
	}
}

// TestP14_2Halves rounds next to each half: it goes to the even number, and to no other.
func TestP14_2Halves(t *testing.T) {
	for units := range 40 {
		even := units + units%2
		for price, want := range map[int]int{
			1000000 * units: units, 1000000*units + 1: units, 1000000*units + 499999: units, 1000000*units + 500000: even, 1000000*units + 500001: units + 1, 1000000*units + 999999: units + 1,
		} {
			n, e := tier.Flat(price, 1)
			answers(t, "Flat", n, e, want, api.OK)
			n, e = tier.Flat(1, price)
			answers(t, "Flat", n, e, want, api.OK)
			n, e = tier.Tiered(of(1, price, 0, 0), 7)
			answers(t, "Tiered", n, e, want, api.OK)
			n, e = tier.Volume(of(1, price, 0, 0), 1)
			answers(t, "Volume", n, e, want, api.OK)
		}
	}
}

// TestP14_2Overflow writes out what is at the bound of units, what rounds to it, and what goes beyond.
func TestP14_2Overflow(t *testing.T) {
	// Their products are 2^62 millions and a half, and two millionths less than that.
	const price, qty = 59768860500000, 77158673929
	const price2, qty2 = 17766509806, 259571861259433
	for _, x := range []struct{ price, qty, want int }{
		{1 << 41, 1 << 40, 2417851639229258349}, {price, qty, api.MaxUnits}, {qty, price, api.MaxUnits}, {price2, qty2, api.MaxUnits}, {1000000, most, most}, {1000000000, most, 1000 * most}, {4096000000, most, api.MaxUnits}, {most, 4096000000, api.MaxUnits},
	} {
		n, e := tier.Flat(x.price, x.qty)
		answers(t, "Flat", n, e, x.want, api.OK)
		n, e = tier.Tiered(of(5, x.price, 0, x.price), x.qty)
		answers(t, "Tiered", n, e, x.want, api.OK)
		n, e = tier.Volume(of(5, most, 0, x.price), x.qty)
		answers(t, "Volume", n, e, x.want, api.OK)
	}
	for _, x := range []struct{ price, qty int }{
		{price + 1, qty}, {price, qty + 1}, {1 << 41, 1 << 41}, {4096000001, most}, {most, 4096000001}, {most, most}, {most, most - 1}, {1 << 42, 1 << 41}, {1 << 49, 1 << 35}, {1 << 50, 1 << 34}, {1 << 44, 1 << 40},
	} {
		n, e := tier.Flat(x.price, x.qty)
		answers(t, "Flat", n, e, 0, api.ErrOverflow)
		n, e = tier.Tiered(of(5, x.price, 0, x.price), x.qty)
		answers(t, "Tiered", n, e, 0, api.ErrOverflow)
		n, e = tier.Volume(of(5, 0, 0, x.price), x.qty)
		answers(t, "Volume", n, e, 0, api.ErrOverflow)
	}
	// A half above the bound goes to the bound, which is even; one millionth more does not.
	n, e := tier.Tiered(of(qty, price, 0, 1), qty)
	answers(t, "Tiered", n, e, api.MaxUnits, api.OK)
	n, e = tier.Tiered(of(qty, price, 0, 1), qty+1)
	answers(t, "Tiered", n, e, 0, api.ErrOverflow)
	n, e = tier.Volume(of(qty, price, 0, 1), qty+1)
	answers(t, "Volume", n, e, 77159, api.OK)
	n, e = tier.Tiered(of(1, most, 0, most), most)
	answers(t, "Tiered", n, e, 0, api.ErrOverflow)
}

// TestP14_2Range hands in quantities and prices out of their bounds, be the units beside them too many or not.
func TestP14_2Range(t *testing.T) {
	for _, n := range []int{-1, -2, -most, math.MinInt, most + 1, most + 2, 1 << 51, api.MaxUnits, math.MaxInt} {
		for _, l := range [][]tier.Tier{list(), of(0, 0), of(0, most), many(20), of(most, 1, 0, 1)} {
			got, e := tier.Tiered(l, n)
			answers(t, "Tiered", got, e, 0, api.ErrRange)
			got, e = tier.Volume(l, n)
			answers(t, "Volume", got, e, 0, api.ErrRange)
		}
		for _, m := range []int{0, 1, most, -1, most + 1, math.MinInt, math.MaxInt} {
			got, e := tier.Flat(n, m)
			answers(t, "Flat", got, e, 0, api.ErrRange)
			got, e = tier.Flat(m, n)
			answers(t, "Flat", got, e, 0, api.ErrRange)
		}
	}
	for _, n := range []int{0, most} {
		got, e := tier.Flat(0, n)
		answers(t, "Flat", got, e, 0, api.OK)
		got, e = tier.Flat(n, 0)
		answers(t, "Flat", got, e, 0, api.OK)
		got, e = tier.Tiered(of(0, 0), n)
		answers(t, "Tiered", got, e, 0, api.OK)
		got, e = tier.Volume(of(0, 0), n)
		answers(t, "Volume", got, e, 0, api.OK)
	}
}

// TestP14_2Any holds prices of many lists and quantities against the chapter's words, worked out by another way.
func TestP14_2Any(t *testing.T) {
	r := rand.New(rand.NewPCG(14, 2))
	for _, a := range edges() {
		for _, b := range edges() {
			flat(t, a, b)
		}
		prices(t, list(), a)
		prices(t, many(20), a)
		prices(t, of(a, 5, 0, most), a)
		prices(t, of(a, a, 0, a+1), a+1)
		prices(t, of(0, a), most)
	}
	for range 4000 {
		small, wide := anyList(r, 50, 3000000), anyList(r, most, most)
		for range 4 {
			prices(t, small, r.IntN(60))
			prices(t, wide, upTo(r, most))
			prices(t, anyList(r, most, 1<<34), upTo(r, most))
			flat(t, upTo(r, most), upTo(r, most))
			flat(t, r.IntN(100)*100000, r.IntN(100))
		}
		for _, x := range wide {
			prices(t, wide, x.UpTo)
			prices(t, wide, x.UpTo+1)
		}
	}
}
