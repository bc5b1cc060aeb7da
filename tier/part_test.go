package tier_test

import (
	"math"
	"math/rand/v2"
	"testing"

	"exchequer/api"
	"exchequer/tier"
)

// TestP14_3Examples is the chapter's examples.
func TestP14_3Examples(t *testing.T) {
	n, e := tier.Prorate(100, 1, 3)
	answers(t, "Prorate", n, e, 33, api.OK)
	n, e = tier.Prorate(5, 1, 2)
	answers(t, "Prorate", n, e, 2, api.OK)
	n, e = tier.Prorate(1, 1, 0)
	answers(t, "Prorate", n, e, 0, api.ErrZero)
	n, e = tier.Percent(15, 100000)
	answers(t, "Percent", n, e, 2, api.OK)
}

// TestP14_3Prorate writes out parts, next to halves and at the bounds.
func TestP14_3Prorate(t *testing.T) {
	for _, x := range []struct{ units, part, of, want int }{
		{100, 2, 3, 67}, {100, 3, 3, 100}, {100, 0, 3, 0}, {0, 2, 3, 0}, {0, 0, 1, 0}, {1, 1, 1, 1},
		{1, 1, 2, 0}, {3, 1, 2, 2}, {5, 1, 2, 2}, {7, 1, 2, 4}, {15, 1, 10, 2}, {25, 1, 10, 2}, {24, 1, 10, 2}, {26, 1, 10, 3}, {35, 1, 10, 4}, {5, 3, 6, 2}, {7, 3, 6, 4}, {14, 1, 30, 0}, {15, 1, 30, 0}, {16, 1, 30, 1}, {31, 15, 30, 16}, {29, 15, 30, 14},
		{1, whole / 2, whole, 0}, {1, whole/2 + 1, whole, 1}, {3, whole / 2, whole, 2}, {1, whole, whole, 1}, {1, whole - 1, whole, 1}, {1, 1, whole, 0}, {1 << 30, 1, whole, 0}, {1<<30 + 1, 1, whole, 1}, {3 << 30, 1, whole, 2},
		{api.MaxUnits, whole, whole, api.MaxUnits}, {api.MaxUnits, 1, 1, api.MaxUnits}, {api.MaxUnits, 1, 2, 1 << 61}, {api.MaxUnits - 1, 1, 2, 1 << 61}, {api.MaxUnits - 3, 1, 2, 1<<61 - 2}, {api.MaxUnits - 1, 1, 4, 1 << 60}, {api.MaxUnits, whole - 1, whole, 1<<62 - 1<<31}, {api.MaxUnits, 1, whole, 1 << 31}, {api.MaxUnits, 0, whole, 0}, {api.MaxUnits, 1, 3, 1537228672809129301}, {api.MaxUnits, 2, 3, 3074457345618258603},
	} {
		n, e := tier.Prorate(x.units, x.part, x.of)
		answers(t, "Prorate", n, e, x.want, api.OK)
		n, e = tier.Prorate(-x.units, x.part, x.of)
		answers(t, "Prorate", n, e, -x.want, api.OK)
	}
}

// TestP14_3Faults hands in numbers out of their bounds: a whole of 0 is told ahead of all else.
func TestP14_3Faults(t *testing.T) {
	for _, units := range edges() {
		for _, part := range edges() {
			n, e := tier.Prorate(units, part, 0)
			answers(t, "Prorate", n, e, 0, api.ErrZero)
		}
	}
	for _, x := range []struct{ units, part, of int }{
		{api.MaxUnits + 1, 1, 1}, {-api.MaxUnits - 1, 1, 1}, {math.MaxInt, 0, 1}, {math.MinInt, 0, 1}, {api.MaxUnits + 1, 0, whole},
		{1, -1, 1}, {1, 2, 1}, {1, 31, 30}, {1, whole + 1, whole}, {1, math.MinInt, 1}, {1, math.MaxInt, whole}, {0, -1, 5}, {0, 6, 5},
		{1, 1, whole + 1}, {1, 0, whole + 1}, {1, whole + 1, whole + 1}, {1, 1, math.MaxInt}, {1, 0, -1}, {1, -1, -1}, {1, 1, -1}, {1, -2, -1}, {1, -1, -2}, {1, 0, math.MinInt}, {1, math.MinInt, math.MinInt}, {0, 0, -1},
	} {
		n, e := tier.Prorate(x.units, x.part, x.of)
		answers(t, "Prorate", n, e, 0, api.ErrRange)
	}
}

// TestP14_3Percent writes out millionths of units, next to halves and at the bounds.
func TestP14_3Percent(t *testing.T) {
	for _, x := range []struct{ units, millionths, want int }{
		{0, 0, 0}, {0, 10000000, 0}, {100, 0, 0}, {100, 200000, 20}, {100, 1000000, 100}, {100, 10000000, 1000}, {1, 9999999, 10}, {1, 9500000, 10}, {1, 8500000, 8}, {1, 8500001, 9},
		{5, 100000, 0}, {6, 100000, 1}, {14, 100000, 1}, {15, 100000, 2}, {16, 100000, 2}, {25, 100000, 2}, {26, 100000, 3}, {35, 100000, 4}, {1, 500000, 0}, {1, 500001, 1}, {1, 499999, 0}, {1, 1500000, 2}, {3, 500000, 2}, {1, 1, 0}, {500000, 1, 0}, {500001, 1, 1}, {1500000, 1, 2},
		{api.MaxUnits, 0, 0}, {api.MaxUnits, 1000000, api.MaxUnits}, {api.MaxUnits, 1, 4611686018427}, {api.MaxUnits, 500000, 1 << 61}, {api.MaxUnits, 999999, 4611681406741369477}, {461168601842738790, 10000000, 4611686018427387900}, {1 << 61, 2000000, api.MaxUnits}, {1 << 60, 4000000, api.MaxUnits},
		// A half above the bound goes to the bound, which is even, and so does what is less than a half above.
		{683212743470724134, 6750000, api.MaxUnits}, {2292406071028361213, 2011723, api.MaxUnits},
	} {
		n, e := tier.Percent(x.units, x.millionths)
		answers(t, "Percent", n, e, x.want, api.OK)
		n, e = tier.Percent(-x.units, x.millionths)
		answers(t, "Percent", n, e, -x.want, api.OK)
	}
}

// TestP14_3PercentFaults hands in numbers out of their bounds, and such of which too many units come.
func TestP14_3PercentFaults(t *testing.T) {
	for _, n := range []int{api.MaxUnits + 1, -api.MaxUnits - 1, math.MaxInt, math.MinInt} {
		for _, millionths := range []int{0, 1, 1000000, 10000000, -1, 10000001} {
			got, e := tier.Percent(n, millionths)
			answers(t, "Percent", got, e, 0, api.ErrRange)
		}
	}
	for _, millionths := range []int{-1, -1000000, 10000001, math.MaxInt, math.MinInt} {
		for _, n := range []int{0, 1, -1, api.MaxUnits, -api.MaxUnits} {
			got, e := tier.Percent(n, millionths)
			answers(t, "Percent", got, e, 0, api.ErrRange)
		}
	}
	for _, x := range []struct{ units, millionths int }{
		{api.MaxUnits, 1000001}, {api.MaxUnits, 10000000}, {api.MaxUnits, 4000000}, {api.MaxUnits, 8000000}, {461168601842738791, 10000000}, {1<<61 + 1, 2000000}, {1 << 61, 2000001}, {1 << 60, 8000000},
		{683212743470724134, 6750001}, {683212743470724135, 6750000}, {1357391893071734423, 3397461},
	} {
		n, e := tier.Percent(x.units, x.millionths)
		answers(t, "Percent", n, e, 0, api.ErrOverflow)
		n, e = tier.Percent(-x.units, x.millionths)
		answers(t, "Percent", n, e, 0, api.ErrOverflow)
	}
}

// TestP14_3Any holds many parts and millionths against the chapter's words, worked out by another way.
func TestP14_3Any(t *testing.T) {
	l := edges()
	for _, a := range l {
		for _, b := range l {
			percent(t, a, b)
			for _, c := range l {
				prorate(t, a, b, c)
			}
		}
	}
	r := rand.New(rand.NewPCG(14, 3))
	for range 20000 {
		for _, sign := range []int{1, -1} {
			of := 1 + upTo(r, whole-1)
			prorate(t, sign*upTo(r, api.MaxUnits), r.IntN(of+1), of)
			prorate(t, sign*r.IntN(1000), r.IntN(13), 1+r.IntN(12))
			percent(t, sign*upTo(r, api.MaxUnits), upTo(r, 10000000))
			percent(t, sign*r.IntN(1000), r.IntN(101)*100000)
		}
	}
}
