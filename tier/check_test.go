package tier_test

import (
	"math"
	"math/rand/v2"
	"slices"
	"testing"

	"exchequer/api"
	"exchequer/tier"
)

// checks holds Check, and each call that asks it first, to an error.
func checks(t *testing.T, l []tier.Tier, want api.Errno) {
	t.Helper()
	if e := tier.Check(l); e != want {
		t.Errorf("Check(%v): %d, not %d", l, e, want)
	}
	if checked(l) != want {
		t.Errorf("%v: %d by the words, not %d", l, checked(l), want)
	}
	text, e := tier.Format(l)
	if e != want || (text == "") != (want != api.OK) {
		t.Errorf("Format(%v): %q, %d, not %d", l, text, e, want)
	}
	if want == api.OK {
		return
	}
	for _, qty := range []int{0, 1, 150, most, -1, most + 1, math.MinInt, math.MaxInt} {
		n, e := tier.Tiered(l, qty)
		answers(t, "Tiered", n, e, 0, want)
		n, e = tier.Volume(l, qty)
		answers(t, "Volume", n, e, 0, want)
	}
}

// TestP14_1Many hands in no tiers, as many as may be, and one more, with other faults and without.
func TestP14_1Many(t *testing.T) {
	checks(t, nil, api.ErrMany)
	checks(t, []tier.Tier{}, api.ErrMany)
	for n := 1; n <= api.MaxTiers; n++ {
		checks(t, many(n), api.OK)
	}
	checks(t, many(api.MaxTiers+1), api.ErrMany)
	checks(t, make([]tier.Tier, api.MaxTiers+1), api.ErrMany)
	checks(t, slices.Repeat(of(-1, -1), api.MaxTiers+1), api.ErrMany)
	checks(t, make([]tier.Tier, 1<<16), api.ErrMany)
}

// TestP14_1Price puts a price at its bounds and beyond into each place.
func TestP14_1Price(t *testing.T) {
	for _, n := range []int{1, 2, 3, api.MaxTiers} {
		for i := range n {
			for price, want := range map[int]api.Errno{
				0: api.OK, 1: api.OK, most - 1: api.OK, most: api.OK,
				-1: api.ErrRange, most + 1: api.ErrRange, -most: api.ErrRange, math.MaxInt: api.ErrRange, math.MinInt: api.ErrRange,
			} {
				l := many(n)
				l[i].Price = price
				checks(t, l, want)
			}
		}
	}
}

// TestP14_1End puts an end at its bounds and beyond into each place, and next to the ends beside it.
func TestP14_1End(t *testing.T) {
	for _, end := range []int{0, -1, -100, most + 1, math.MaxInt, math.MinInt} {
		checks(t, of(end, 1, 0, 1), api.ErrRange)
		checks(t, of(100, 1, end, 1, 0, 1), api.ErrRange)
		checks(t, of(end, 1, 200, 1, 0, 1), api.ErrRange)
	}
	for _, end := range []int{1, 99, 100, 101, most, most + 1, -1, math.MaxInt, math.MinInt} {
		checks(t, of(end, 1), api.ErrRange)
		checks(t, of(100, 1, end, 1), api.ErrRange)
	}
	for end, want := range map[int]api.Errno{
		1: api.ErrRange, 99: api.ErrRange, 100: api.ErrRange, 101: api.OK, 102: api.OK, 199: api.OK, 200: api.ErrRange, 201: api.ErrRange,
	} {
		checks(t, of(100, 1, end, 1, 200, 1, 0, 1), want)
	}
	checks(t, of(1, 1, 0, 1), api.OK)
	checks(t, of(most, 1, 0, 1), api.OK)
	checks(t, of(most-1, 1, most, 1, 0, 1), api.OK)
	checks(t, of(most, 1, most, 1, 0, 1), api.ErrRange)
	checks(t, of(most, 1, most+1, 1, 0, 1), api.ErrRange)
	checks(t, of(0, 1, 0, 1), api.ErrRange)
	checks(t, of(0, 1, 5, 1, 0, 1), api.ErrRange)
	checks(t, of(0, 1, 5, 1), api.ErrRange)
}

// TestP14_1Any spoils lists at one place or at several, and holds Check to the chapter's words.
func TestP14_1Any(t *testing.T) {
	r := rand.New(rand.NewPCG(14, 1))
	l := edges()
	counts := map[api.Errno]int{}
	for range 20000 {
		x := anyList(r, most, most)
		for range r.IntN(3) {
			i := r.IntN(len(x))
			switch r.IntN(5) {
			case 0:
				x[i].UpTo = l[r.IntN(len(l))]
			case 1:
				x[i].Price = l[r.IntN(len(l))]
			case 2:
				x[i].UpTo = x[r.IntN(len(x))].UpTo
			case 3:
				x = slices.Insert(x, i, slices.Repeat(x[i:i+1], r.IntN(10))...)
			case 4:
				x[i].UpTo += r.IntN(3) - 1
			}
		}
		want := checked(x)
		checks(t, x, want)
		counts[want]++
	}
	for _, e := range []api.Errno{api.OK, api.ErrMany, api.ErrRange} {
		if counts[e] < 300 {
			t.Errorf("%d of %d", counts[e], e)
		}
	}
}
