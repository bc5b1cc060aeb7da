package tier_test

import (
	"fmt"
	"math"
	"math/big"
	"math/rand/v2"
	"slices"
	"testing"

	"exchequer/api"
	"exchequer/tier"
)

const (
	most  = 1 << 50 // the greatest quantity, end and price
	whole = 1 << 31 // the greatest whole of parts
)

// of is tiers: an end and a price of each, an end of 0 for none.
func of(ends ...int) []tier.Tier {
	var l []tier.Tier
	for pair := range slices.Chunk(ends, 2) {
		l = append(l, tier.Tier{UpTo: pair[0], Price: pair[1]})
	}
	return l
}

// list is the tiers of the chapter's examples.
func list() []tier.Tier { return of(100, 2000000, 200, 1500000, 0, 1000000) }

// many is so many tiers, each of one more than the one ahead.
func many(n int) []tier.Tier {
	var l []tier.Tier
	for i := range n - 1 {
		l = append(l, tier.Tier{UpTo: i + 1, Price: 1000000 * i})
	}
	return append(l, tier.Tier{Price: 7})
}

// answers holds an answer against units and an error.
func answers(t *testing.T, what string, got int, e api.Errno, want int, bad api.Errno) {
	t.Helper()
	if got != want || e != bad {
		t.Errorf("%s: %d, %d; not %d, %d", what, got, e, want, bad)
	}
}

// says holds an answer against a number: that many units, or ErrOverflow if no amount may have them.
func says(t *testing.T, what string, got int, e api.Errno, want *big.Int) {
	t.Helper()
	if want.CmpAbs(big.NewInt(api.MaxUnits)) > 0 {
		answers(t, what, got, e, 0, api.ErrOverflow)
		return
	}
	answers(t, what, got, e, int(want.Int64()), api.OK)
}

// times is the product.
func times(a, b int) *big.Int { return new(big.Int).Mul(big.NewInt(int64(a)), big.NewInt(int64(b))) }

// nearest is a number by another one above 0, to the nearest, halves to the even: it goes down first, and up where more than a half was lost, or a half from the odd.
func nearest(n *big.Int, by int) *big.Int {
	d := big.NewInt(int64(by))
	down, lost := new(big.Int).DivMod(n, d, new(big.Int))
	if c := lost.Lsh(lost, 1).Cmp(d); c > 0 || c == 0 && down.Bit(0) == 1 {
		down.Add(down, big.NewInt(1))
	}
	return down
}

// bounded: may a quantity, an end or a price be that?
func bounded(n int) bool { return n >= 0 && n <= most }

// checked is Check by the chapter's words, looking at what each tier is to be.
func checked(l []tier.Tier) api.Errno {
	if n := len(l); n < 1 || n > 20 {
		return api.ErrMany
	}
	ends := []int{0}
	for i, x := range l {
		if !bounded(x.Price) || (x.UpTo == 0) != (i == len(l)-1) || !bounded(x.UpTo) {
			return api.ErrRange
		}
		ends = append(ends, x.UpTo)
	}
	ends[len(l)] = math.MaxInt
	for i := range l {
		if ends[i+1] <= ends[i] {
			return api.ErrRange
		}
	}
	return api.OK
}

// tieredOf is the millionths of a quantity by tiers: all of it at the last one's price, and what the prices ahead are more, each as far as it goes.
func tieredOf(l []tier.Tier, qty int) *big.Int {
	last := len(l) - 1
	sum := times(qty, l[last].Price)
	for i, x := range l[:last] {
		sum.Add(sum, times(min(qty, x.UpTo), x.Price-l[i+1].Price))
	}
	return sum
}

// priceAt is the price of the tier in which a quantity lies.
func priceAt(l []tier.Tier, qty int) int {
	for _, x := range l {
		if x.UpTo >= qty || x.UpTo == 0 {
			return x.Price
		}
	}
	return -1
}

// prices holds Tiered and Volume to what the chapter says of a list and a quantity.
func prices(t *testing.T, l []tier.Tier, qty int) {
	t.Helper()
	tiered, e := tier.Tiered(l, qty)
	volume, f := tier.Volume(l, qty)
	what := fmt.Sprint(l, qty)
	bad := checked(l)
	if bad == api.OK && !bounded(qty) {
		bad = api.ErrRange
	}
	if bad != api.OK {
		answers(t, "Tiered "+what, tiered, e, 0, bad)
		answers(t, "Volume "+what, volume, f, 0, bad)
		return
	}
	says(t, "Tiered "+what, tiered, e, nearest(tieredOf(l, qty), 1000000))
	says(t, "Volume "+what, volume, f, nearest(times(qty, priceAt(l, qty)), 1000000))
}

// flat holds Flat to what the chapter says.
func flat(t *testing.T, price, qty int) {
	t.Helper()
	n, e := tier.Flat(price, qty)
	what := fmt.Sprint("Flat ", price, " ", qty)
	if !bounded(price) || !bounded(qty) {
		answers(t, what, n, e, 0, api.ErrRange)
		return
	}
	says(t, what, n, e, nearest(times(price, qty), 1000000))
}

// amount: may an amount have that many units?
func amount(units int) bool { return units >= -api.MaxUnits && units <= api.MaxUnits }

// prorate holds Prorate to what the chapter says.
func prorate(t *testing.T, units, part, of int) {
	t.Helper()
	n, e := tier.Prorate(units, part, of)
	what := fmt.Sprint("Prorate ", units, " ", part, " ", of)
	switch {
	case of == 0:
		answers(t, what, n, e, 0, api.ErrZero)
	case of < 0, of > whole, part < 0, part > of, !amount(units):
		answers(t, what, n, e, 0, api.ErrRange)
	default:
		says(t, what, n, e, nearest(times(units, part), of))
	}
}

// percent holds Percent to what the chapter says.
func percent(t *testing.T, units, millionths int) {
	t.Helper()
	n, e := tier.Percent(units, millionths)
	what := fmt.Sprint("Percent ", units, " ", millionths)
	if !amount(units) || millionths < 0 || millionths > 10000000 {
		answers(t, what, n, e, 0, api.ErrRange)
		return
	}
	says(t, what, n, e, nearest(times(units, millionths), 1000000))
}

// edges are ints at all bounds that the chapter names, on both sides of them and of 0.
func edges() []int {
	l := []int{math.MinInt, math.MaxInt, math.MinInt + 1, math.MaxInt - 1}
	for _, n := range []int{0, 2, 5, 500000, 1000000, 1500000, 10000000, whole, 1 << 32, 1 << 41, most, api.MaxUnits} {
		for d := -1; d <= 1; d++ {
			l = append(l, n+d, -n+d)
		}
	}
	return l
}

// upTo is a number from 0 to a bound, of any length, by a chance that is fixed ahead.
func upTo(r *rand.Rand, bound int) int { return r.IntN(bound+1) >> r.IntN(60) }

// anyList is tiers that may be, of prices up to a bound, by a chance that is fixed ahead.
func anyList(r *rand.Rand, end, price int) []tier.Tier {
	var ends []int
	for range r.IntN(20) {
		ends = append(ends, 1+upTo(r, end-1))
	}
	slices.Sort(ends)
	var l []tier.Tier
	for _, n := range append(slices.Compact(ends), 0) {
		l = append(l, tier.Tier{UpTo: n, Price: upTo(r, price)})
	}
	return l
}
