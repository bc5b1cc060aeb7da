package money_test

import (
	"math"
	"math/big"
	"math/rand/v2"
	"slices"
	"strconv"
	"testing"

	"exchequer/api"
	"exchequer/money"
)

// TestP6_4Ratio writes out ratios: halves of either sign go to the even number, whichever of the three numbers is below 0.
func TestP6_4Ratio(t *testing.T) {
	for _, x := range []struct{ units, num, den, want int }{
		{5, 1, 2, 2}, {15, 1, 10, 2}, {25, 1, 10, 2}, {35, 1, 10, 4}, {-5, 1, 2, -2}, {-15, 1, 10, -2}, {-25, 1, 10, -2}, {-35, 1, 10, -4}, {-7, 1, 2, -4}, {7, 1, 2, 4}, {1, 1, 2, 0}, {-1, 1, 2, 0}, {3, 1, 2, 2}, {-3, 1, 2, -2},
		{5, -1, 2, -2}, {5, 1, -2, -2}, {5, -1, -2, 2}, {-5, -1, 2, 2}, {-5, 1, -2, 2}, {-5, -1, -2, -2}, {7, -1, 2, -4}, {7, 1, -2, -4}, {-7, 1, -2, 4}, {15, 3, -10, -4}, {15, -3, 10, -4},
		{14, 1, 10, 1}, {16, 1, 10, 2}, {24, 1, 10, 2}, {26, 1, 10, 3}, {-14, 1, 10, -1}, {-16, 1, 10, -2}, {1, 1, 3, 0}, {2, 1, 3, 1}, {-1, 1, 3, 0}, {-2, 1, 3, -1}, {100, 2, 3, 67}, {100, 1, 3, 33},
		{123, 1, 1, 123}, {123, 1, -1, -123}, {123, -1, 1, -123}, {123, 0, 5, 0}, {-123, 0, -5, 0}, {0, 7, 3, 0}, {0, math.MinInt, math.MinInt, 0}, {0, 1, math.MinInt, 0},
		{most, 1, 1, most}, {most, 1, -1, -most}, {-most, 1, -1, most}, {-most, 1, 1, -most}, {most, math.MaxInt, math.MaxInt, most}, {most, math.MinInt, math.MinInt, most}, {-most, math.MinInt, math.MinInt, -most},
		{most, 1, math.MinInt, 0}, {-most, 1, math.MinInt, 0}, {most, 3, math.MinInt, -2}, {most, 5, math.MinInt, -2}, {-most, 3, math.MinInt, 2}, {most, 2, math.MinInt, -1}, {most, 1, math.MaxInt, 1},
		{most - 1, 1, math.MinInt, 0}, {most, -1, math.MinInt, 0}, {most, 7, 7, most}, {most - 1, 3, 3, most - 1}, {1, most, 1, most}, {-1, most, 1, -most}, {2, most, 2, most}, {1, math.MaxInt, 2, most}, {1, math.MinInt, 2, -most}, {1, math.MinInt, -2, most},
	} {
		got, e := of(x.units, "USD").Ratio(x.num, x.den)
		holds(t, strconv.Itoa(x.units)+" * "+strconv.Itoa(x.num)+" / "+strconv.Itoa(x.den), got, e, of(x.want, "USD"))
	}
}

// TestP6_4Faults divides by 0, and leaves the bounds.
func TestP6_4Faults(t *testing.T) {
	for _, n := range bounds() {
		for _, num := range []int{0, 1, -1, math.MaxInt, math.MinInt} {
			got, e := of(n, "USD").Ratio(num, 0)
			fails(t, strconv.Itoa(n)+" * "+strconv.Itoa(num)+" / 0", got, e, api.ErrZero)
		}
	}
	for _, x := range []struct{ units, num, den int }{
		{most, 2, 1}, {most, -2, 1}, {most, 2, -1}, {-most, 2, 1}, {most, math.MaxInt, 1}, {most, math.MinInt, 1}, {-most, math.MinInt, -1}, {1, math.MaxInt, 1}, {1, math.MinInt, 1}, {1, math.MinInt, -1}, {2, most, 1}, {4, most, 1},
		{most, most + 1, most}, {-most, most + 1, most}, {most, math.MinInt, math.MaxInt}, {-most, math.MinInt, math.MaxInt}, {1, most + 1, 1}, {-1, most + 1, 1}, {1, -most - 1, 1}, {4, most, 3}, {8, 1 << 61, 1}, {16, most, 1}, {most, 16, 1},
	} {
		got, e := of(x.units, "USD").Ratio(x.num, x.den)
		fails(t, strconv.Itoa(x.units)+" * "+strconv.Itoa(x.num)+" / "+strconv.Itoa(x.den), got, e, api.ErrOverflow)
	}
	for _, x := range []struct {
		a money.Amount
		e api.Errno
	}{{of(1, "XXX"), api.ErrCurrency}, {of(most+1, "USD"), api.ErrRange}, {of(math.MinInt, "XXX"), api.ErrCurrency}} {
		for _, den := range []int{0, 1} {
			got, e := x.a.Ratio(math.MaxInt, den)
			fails(t, tell(x.a), got, e, x.e)
		}
	}
}

// nearest is a quotient rounded to the nearest, halves to the even, told by the quotient of twice it and one more.
func nearest(a, d *big.Int) *big.Int {
	if d.Sign() < 0 {
		a, d = new(big.Int).Neg(a), new(big.Int).Neg(d)
	}
	twice := new(big.Int).Lsh(d, 1)
	top := new(big.Int).Add(new(big.Int).Lsh(a, 1), d)
	// Div rounds down, as d is above 0; a half is gone up, and goes down again if that was to the odd number.
	quotient, rest := new(big.Int).DivMod(top, twice, new(big.Int))
	if rest.Sign() == 0 && quotient.Bit(0) == 1 {
		quotient.Sub(quotient, big.NewInt(1))
	}
	return quotient
}

// TestP6_4Any holds many ratios against rounding by another way.
func TestP6_4Any(t *testing.T) {
	ratio := func(units, num, den int) {
		t.Helper()
		got, e := of(units, "KWD").Ratio(num, den)
		product := new(big.Int).Mul(big.NewInt(int64(units)), big.NewInt(int64(num)))
		says(t, strconv.Itoa(units)+" * "+strconv.Itoa(num)+" / "+strconv.Itoa(den), got, e, nearest(product, big.NewInt(int64(den))), "KWD")
	}
	edges := append(append(bounds(), beyond()...), 3, 5, -7, 1<<61, 1<<61+1, math.MaxInt-1, math.MinInt+1)
	for _, n := range bounds() {
		for _, num := range edges {
			for _, den := range edges {
				if den != 0 {
					ratio(n, num, den)
				}
			}
		}
	}
	r := rand.New(rand.NewPCG(6, 4))
	for range 20000 {
		ratio(r.IntN(2000)-1000, r.IntN(40)-20, 1+r.IntN(20))
		if den := int(r.Uint64()) >> r.IntN(64); den != 0 {
			ratio(anyUnits(r), int(r.Uint64())>>r.IntN(64), den)
		}
	}
}

// units is the units of amounts that are all of one currency.
func units(t *testing.T, l []money.Amount, cur string) []int {
	t.Helper()
	var got []int
	for _, a := range l {
		if a.Cur != cur {
			t.Errorf("%s, not of %s", tell(a), cur)
		}
		got = append(got, a.Units)
	}
	return got
}

// TestP6_5Allocate writes out parts, of either sign.
func TestP6_5Allocate(t *testing.T) {
	for _, x := range []struct {
		units   int
		weights []int
		want    []int
	}{
		{100, []int{1, 1, 1}, []int{34, 33, 33}}, {5, []int{0, 1, 1}, []int{0, 3, 2}}, {10, []int{1, 2, 4}, []int{1, 3, 6}}, {0, []int{5}, []int{0}}, {0, []int{1, 0, 2}, []int{0, 0, 0}}, {1, []int{1}, []int{1}}, {1, []int{1, 1}, []int{1, 0}}, {1, []int{0, 0, 3, 3}, []int{0, 0, 1, 0}},
		{1, []int{1, 2}, []int{0, 1}}, {1, []int{1, 2, 2}, []int{0, 1, 0}}, {2, []int{1, 2, 2}, []int{0, 1, 1}}, {3, []int{1, 2, 2}, []int{1, 1, 1}}, {4, []int{1, 2, 2}, []int{1, 2, 1}}, {5, []int{1, 2, 2}, []int{1, 2, 2}},
		{7, []int{1, 1, 1, 1}, []int{2, 2, 2, 1}}, {4, []int{3, 1, 1, 1}, []int{2, 1, 1, 0}}, {5, []int{3, 1, 1, 1}, []int{2, 1, 1, 1}}, {4, []int{1, 1, 1, 3}, []int{1, 1, 0, 2}}, {99, []int{0, 7, 0}, []int{0, 99, 0}},
		{most, []int{1}, []int{most}}, {most, []int{1 << 31}, []int{most}}, {most, []int{1, 1}, []int{1 << 61, 1 << 61}}, {most - 1, []int{1 << 31, 1 << 31}, []int{1 << 61, 1<<61 - 1}}, {most, []int{0, 1 << 31, 0}, []int{0, most, 0}},
		{most, []int{1 << 31, 1 << 31, 1 << 31, 1 << 31}, []int{1 << 60, 1 << 60, 1 << 60, 1 << 60}}, {most, []int{1, 1, 1}, []int{1537228672809129302, 1537228672809129301, 1537228672809129301}}, {most, []int{1, 1<<31 - 1}, []int{1 << 31, most - 1<<31}},
		{most, []int{1 << 31, 1 << 31, 1}, []int{1<<61 - 1<<29, 1<<61 - 1<<29, 1 << 30}}, {1, []int{1 << 31, 1}, []int{1, 0}}, {1, []int{1, 1 << 31}, []int{0, 1}}, {1 << 31, []int{1, 1 << 31}, []int{1, 1<<31 - 1}},
	} {
		for _, sign := range []int{1, -1} {
			a := of(sign*x.units, "EUR")
			l, e := a.Allocate(x.weights)
			got := units(t, l, "EUR")
			for i := range got {
				got[i] *= sign
			}
			if !slices.Equal(got, x.want) || e != api.OK {
				t.Errorf("%s by %v: %v, %d, not %v", tell(a), x.weights, l, e, x.want)
			}
		}
	}
}

// TestP6_5Examples is the chapter's examples.
func TestP6_5Examples(t *testing.T) {
	l, e := of(100, "USD").Allocate([]int{1, 1, 1})
	if !slices.Equal(l, usd(34, 33, 33)) || e != api.OK {
		t.Errorf("%v, %d", l, e)
	}
	l, e = of(-5, "EUR").Allocate([]int{0, 1, 1})
	if !slices.Equal(l, []money.Amount{of(0, "EUR"), of(-3, "EUR"), of(-2, "EUR")}) || e != api.OK {
		t.Errorf("%v, %d", l, e)
	}
	if l, e = of(1, "JPY").Allocate([]int{0}); len(l) != 0 || e != api.ErrZero {
		t.Errorf("%v, %d", l, e)
	}
}

// TestP6_5Many parts by as many weights as there may be, alike and next to alike.
func TestP6_5Many(t *testing.T) {
	for _, weight := range []int{1, 7, 1 << 31} {
		l, e := of(most, "GBP").Allocate(slices.Repeat([]int{weight}, api.MaxWeights))
		got := units(t, l, "GBP")
		want := slices.Concat(slices.Repeat([]int{46116860184273880}, 4), slices.Repeat([]int{46116860184273879}, 96))
		if !slices.Equal(got, want) || e != api.OK {
			t.Errorf("%d: %v, %d", weight, got, e)
		}
		l, e = of(-99, "GBP").Allocate(slices.Repeat([]int{weight}, api.MaxWeights))
		got = units(t, l, "GBP")
		if !slices.Equal(got, append(slices.Repeat([]int{-1}, 99), 0)) || e != api.OK {
			t.Errorf("%d: %v, %d", weight, got, e)
		}
	}
	weights := make([]int, api.MaxWeights)
	weights[99] = 1
	l, e := of(5, "GBP").Allocate(weights)
	if got := units(t, l, "GBP"); !slices.Equal(got, append(make([]int, 99), 5)) || e != api.OK {
		t.Errorf("%v, %d", got, e)
	}
}

// TestP6_5Faults parts by weights that may not be: of several faults the first in the chapter's order is told.
func TestP6_5Faults(t *testing.T) {
	long := slices.Repeat([]int{1}, api.MaxWeights)
	for i, x := range []struct {
		weights []int
		e       api.Errno
	}{
		{make([]int, api.MaxWeights+1), api.ErrMany}, {append(long, 1), api.ErrMany}, {append(long, -1), api.ErrMany}, {append([]int{-1}, long...), api.ErrMany}, {slices.Repeat([]int{1<<31 + 1}, 200), api.ErrMany}, {append(long, make([]int, 1<<20)...), api.ErrMany},
		{nil, api.ErrZero}, {[]int{}, api.ErrZero},
		{[]int{-1}, api.ErrRange}, {[]int{1<<31 + 1}, api.ErrRange}, {[]int{0, -1}, api.ErrRange}, {[]int{0, 0, 1<<31 + 1}, api.ErrRange}, {[]int{1, 2, -3}, api.ErrRange}, {[]int{1, -1}, api.ErrRange}, {[]int{-1, 1}, api.ErrRange}, {[]int{math.MinInt}, api.ErrRange}, {[]int{math.MaxInt}, api.ErrRange},
		{[]int{math.MaxInt, math.MaxInt, 2}, api.ErrRange}, {[]int{math.MinInt, math.MinInt}, api.ErrRange}, {append(long[:99:99], -1), api.ErrRange}, {append(make([]int, 99), 1<<31+1), api.ErrRange}, {[]int{1 << 32}, api.ErrRange}, {[]int{-1 << 31}, api.ErrRange},
		{[]int{0}, api.ErrZero}, {[]int{0, 0, 0}, api.ErrZero}, {make([]int, api.MaxWeights), api.ErrZero},
	} {
		for _, n := range bounds() {
			if l, e := of(n, "USD").Allocate(x.weights); len(l) != 0 || e != x.e {
				t.Errorf("%d, %d: %v, %d, not %d", i, n, l, e, x.e)
			}
		}
	}
}

// parted says anew what the parts of an amount are: each unit that is left goes to the first of those that lost most and have had none yet.
func parted(n int, weights []int) []int {
	size, total := new(big.Int).Abs(big.NewInt(int64(n))), new(big.Int)
	for _, w := range weights {
		total.Add(total, big.NewInt(int64(w)))
	}
	var parts []int
	var lost []*big.Int
	left := new(big.Int).Set(size)
	for _, w := range weights {
		quotient, rest := new(big.Int).QuoRem(new(big.Int).Mul(size, big.NewInt(int64(w))), total, new(big.Int))
		parts, lost = append(parts, int(quotient.Int64())), append(lost, rest)
		left.Sub(left, quotient)
	}
	for range left.Int64() {
		best := 0
		for i := range lost {
			if lost[i].Cmp(lost[best]) > 0 {
				best = i
			}
		}
		parts[best]++
		lost[best] = big.NewInt(-1)
	}
	for i := range parts {
		if n < 0 {
			parts[i] = -parts[i]
		}
	}
	return parts
}

// sound holds parts to what follows of how they are made.
func sound(t *testing.T, n int, weights, parts []int) {
	t.Helper()
	sum, total := 0, 0
	for i := range parts {
		sum += parts[i]
		total += weights[i]
	}
	if sum != n || len(parts) != len(weights) {
		t.Errorf("%d by %v: %v sums up to %d", n, weights, parts, sum)
	}
	size := func(n int) int { return max(n, -n) }
	for i, p := range parts {
		exact := new(big.Int).Mul(big.NewInt(int64(n)), big.NewInt(int64(weights[i])))
		off := exact.Sub(exact, new(big.Int).Mul(big.NewInt(int64(p)), big.NewInt(int64(total))))
		if off.CmpAbs(big.NewInt(int64(total))) >= 0 {
			t.Errorf("%d by %v: %v: part %d is a unit away", n, weights, parts, i)
		}
		if p != 0 && (weights[i] == 0 || (p < 0) != (n < 0)) {
			t.Errorf("%d by %v: %v: part %d", n, weights, parts, i)
		}
		for j, q := range parts {
			if weights[i] > weights[j] && size(p) < size(q) {
				t.Errorf("%d by %v: %v: part %d is below part %d", n, weights, parts, i, j)
			}
		}
	}
}

// anyWeights is weights that may be, not all 0, by a chance that is fixed ahead.
func anyWeights(r *rand.Rand) []int {
	weights := make([]int, 1+r.IntN(12))
	if r.IntN(30) == 0 {
		weights = make([]int, api.MaxWeights)
	}
	bits := 1 + r.IntN(32)
	for i := range weights {
		weights[i] = min(r.IntN(1<<bits), 1<<31)
		if r.IntN(5) == 0 {
			weights[i] = 0
		}
	}
	weights[r.IntN(len(weights))] = 1 + r.IntN(1<<31)
	return weights
}

// TestP6_7Parts parts many amounts: the parts are those that another way says, sum up, and are less than a unit off.
func TestP6_7Parts(t *testing.T) {
	part := func(n int, weights []int) {
		t.Helper()
		l, e := of(n, "CHF").Allocate(weights)
		got := units(t, l, "CHF")
		if want := parted(n, weights); !slices.Equal(got, want) || e != api.OK {
			t.Errorf("%d by %v: %v, %d, not %v", n, weights, got, e, want)
		}
		sound(t, n, weights, got)
	}
	r := rand.New(rand.NewPCG(6, 7))
	for _, n := range bounds() {
		for range 50 {
			part(n, anyWeights(r))
		}
	}
	for range 3000 {
		part(anyUnits(r), anyWeights(r))
		small := make([]int, 1+r.IntN(6))
		for i := range small {
			small[i] = r.IntN(4)
		}
		small[r.IntN(len(small))]++
		part(r.IntN(60)-30, small)
	}
}
