package money_test

import (
	"math"
	"math/big"
	"math/rand/v2"
	"slices"
	"strconv"
	"testing"

	"exchequer/api"
	"exchequer/money"
)

// both does Add and Sub of two amounts and holds them against sums by another way.
func both(t *testing.T, a, b money.Amount) {
	t.Helper()
	x, y := big.NewInt(int64(a.Units)), big.NewInt(int64(b.Units))
	what := tell(a) + ", " + tell(b)
	sum, e := a.Add(b)
	says(t, "Add: "+what, sum, e, new(big.Int).Add(x, y), a.Cur)
	rest, e := a.Sub(b)
	says(t, "Sub: "+what, rest, e, new(big.Int).Sub(x, y), a.Cur)
	if n, e := a.Cmp(b); n != x.Cmp(y) || e != api.OK {
		t.Errorf("Cmp: %s: %d, %d", what, n, e)
	}
}

// TestP6_3Sums writes out sums and differences, such as just overflow and just don't among them.
func TestP6_3Sums(t *testing.T) {
	over := math.MinInt // stands for ErrOverflow
	for _, x := range []struct{ a, b, sum, rest int }{
		{5, -7, -2, 12}, {0, 0, 0, 0}, {1, 1, 2, 0}, {-1, 1, 0, -2}, {100, 250, 350, -150},
		{most, 0, most, most}, {most, 1, over, most - 1}, {most, -1, most - 1, over}, {most, most, over, 0}, {most, -most, 0, over},
		{-most, 0, -most, -most}, {-most, -1, over, -most + 1}, {-most, 1, -most + 1, over}, {-most, -most, over, 0}, {-most, most, 0, over},
		{most - 1, 1, most, most - 2}, {1 - most, -1, -most, 2 - most}, {0, most, most, -most}, {0, -most, -most, most}, {1, -most, 1 - most, over}, {-1, most, most - 1, over},
	} {
		for i, want := range []int{x.sum, x.rest} {
			a, b := of(x.a, "EUR"), of(x.b, "EUR")
			got, e := []func(money.Amount) (money.Amount, api.Errno){a.Add, a.Sub}[i](b)
			what := tell(a) + ", " + tell(b) + ", " + strconv.Itoa(i)
			if want == over {
				fails(t, what, got, e, api.ErrOverflow)
			} else {
				holds(t, what, got, e, of(want, "EUR"))
			}
		}
	}
	for _, cur := range codes() {
		for _, n := range bounds() {
			for _, m := range bounds() {
				both(t, of(n, cur), of(m, cur))
			}
		}
	}
	r := rand.New(rand.NewPCG(6, 3))
	for range 10000 {
		both(t, of(anyUnits(r), "USD"), of(anyUnits(r), "USD"))
	}
}

// TestP6_3Neg turns amounts over, those at the bounds, too.
func TestP6_3Neg(t *testing.T) {
	for _, cur := range codes() {
		for _, n := range bounds() {
			a, e := of(n, cur).Neg()
			holds(t, tell(of(n, cur)), a, e, of(-n, cur))
		}
	}
}

// TestP6_3Cmp holds amounts against each other.
func TestP6_3Cmp(t *testing.T) {
	for _, x := range []struct{ a, b, want int }{
		{1, 2, -1}, {2, 1, 1}, {2, 2, 0}, {-1, 0, -1}, {0, -1, 1}, {0, 0, 0}, {most, -most, 1}, {-most, most, -1}, {most, most, 0}, {-most, -most, 0}, {most, most - 1, 1}, {-most, 1 - most, -1}, {-2, -1, -1},
	} {
		if n, e := of(x.a, "JPY").Cmp(of(x.b, "JPY")); n != x.want || e != api.OK {
			t.Errorf("%d, %d: %d, %d", x.a, x.b, n, e)
		}
	}
}

// TestP6_3Faults joins amounts of two currencies, and such as may not be: the first one's error is told ahead, and ErrOverflow last.
func TestP6_3Faults(t *testing.T) {
	far, odd := of(most+1, "USD"), of(1, "XXX")
	for _, x := range []struct {
		a, b money.Amount
		e    api.Errno
	}{
		{of(1, "USD"), of(1, "EUR"), api.ErrCurrency}, {of(0, "USD"), of(0, "JPY"), api.ErrCurrency}, {of(most, "USD"), of(most, "GBP"), api.ErrCurrency}, {of(-most, "USD"), of(most, "GBP"), api.ErrCurrency}, {of(1, "CHF"), of(1, "KWD"), api.ErrCurrency},
		{far, odd, api.ErrRange}, {odd, far, api.ErrCurrency}, {of(1, "EUR"), far, api.ErrRange}, {far, of(1, "EUR"), api.ErrRange}, {of(1, "EUR"), odd, api.ErrCurrency}, {odd, odd, api.ErrCurrency}, {odd, of(1, "EUR"), api.ErrCurrency},
		{far, far, api.ErrRange}, {of(most, "USD"), far, api.ErrRange}, {far, of(-5, "USD"), api.ErrRange}, {of(-most-1, "USD"), far, api.ErrRange}, {of(math.MinInt, "USD"), of(math.MinInt, "XXX"), api.ErrRange}, {of(0, "USD"), of(math.MinInt, "USD"), api.ErrRange},
		{money.Amount{}, of(1, "USD"), api.ErrCurrency}, {of(1, "USD"), money.Amount{}, api.ErrCurrency}, {money.Amount{}, money.Amount{}, api.ErrCurrency},
	} {
		what := tell(x.a) + ", " + tell(x.b)
		got, e := x.a.Add(x.b)
		fails(t, "Add: "+what, got, e, x.e)
		got, e = x.a.Sub(x.b)
		fails(t, "Sub: "+what, got, e, x.e)
		if n, e := x.a.Cmp(x.b); n != 0 || e != x.e {
			t.Errorf("Cmp: %s: %d, %d, not %d", what, n, e, x.e)
		}
	}
}

// TestP6_3Sum sums up lists, such as leave the bounds in the middle and come back among them.
func TestP6_3Sum(t *testing.T) {
	for i, x := range []struct {
		l    []money.Amount
		want int
	}{
		{nil, 0}, {usd(), 0}, {usd(5), 5}, {usd(5, -7, 1), -1}, {usd(0, 0, 0), 0}, {usd(most), most}, {usd(-most), -most},
		{usd(most, most, -most, -1), most - 1}, {usd(most, 1, -1), most}, {usd(-most, -1, 1), -most}, {usd(most, most, most, -most, -most), most}, {usd(-most, -most, -most, most, most, most), 0},
		{slices.Concat(slices.Repeat(usd(most), 1000), slices.Repeat(usd(-most), 1000), usd(3)), 3},
	} {
		got, e := money.Sum("USD", x.l)
		holds(t, strconv.Itoa(i), got, e, of(x.want, "USD"))
	}
	for i, l := range [][]money.Amount{
		usd(most, 1), usd(1, most), usd(-most, -1), usd(most, most), usd(-most, -most), usd(most, most, -most, 1), usd(-most, -most, most, -1),
		usd(most, most, most, most), usd(-most, -most, -most, -most), slices.Repeat(usd(most), 8), slices.Repeat(usd(-most), 8), slices.Repeat(usd(most), 1001),
	} {
		got, e := money.Sum("USD", l)
		fails(t, strconv.Itoa(i), got, e, api.ErrOverflow)
	}
	for _, cur := range codes() {
		got, e := money.Sum(cur, nil)
		holds(t, cur, got, e, of(0, cur))
		got, e = money.Sum(cur, []money.Amount{of(2, cur), of(3, cur)})
		holds(t, cur, got, e, of(5, cur))
	}
}

// TestP6_3SumFaults sums up lists that have several faults: the currency's is told first, then the first amount's, ErrOverflow last.
func TestP6_3SumFaults(t *testing.T) {
	far, odd, other := of(most+1, "USD"), of(1, "XXX"), of(1, "EUR")
	for i, x := range []struct {
		cur string
		l   []money.Amount
		e   api.Errno
	}{
		{"XXX", nil, api.ErrCurrency}, {"", nil, api.ErrCurrency}, {"XXX", []money.Amount{far}, api.ErrCurrency}, {"XXX", []money.Amount{odd}, api.ErrCurrency}, {"usd", usd(1), api.ErrCurrency},
		{"USD", []money.Amount{far}, api.ErrRange}, {"USD", []money.Amount{odd}, api.ErrCurrency}, {"USD", []money.Amount{other}, api.ErrCurrency}, {"EUR", []money.Amount{far}, api.ErrRange}, {"EUR", usd(1), api.ErrCurrency},
		{"USD", []money.Amount{far, other}, api.ErrRange}, {"USD", []money.Amount{other, far}, api.ErrCurrency}, {"USD", []money.Amount{odd, far}, api.ErrCurrency}, {"USD", []money.Amount{far, odd}, api.ErrRange},
		{"USD", append(usd(most, most), far), api.ErrRange}, {"USD", append(usd(most, most), other), api.ErrCurrency}, {"USD", append(usd(-most, -most), odd), api.ErrCurrency}, {"USD", append(usd(1, 2), of(-most-1, "USD")), api.ErrRange},
		{"EUR", []money.Amount{other, of(1, "USD"), far}, api.ErrCurrency}, {"USD", []money.Amount{{}}, api.ErrCurrency}, {"USD", append([]money.Amount{far}, usd(-1)...), api.ErrRange},
	} {
		got, e := money.Sum(x.cur, x.l)
		fails(t, strconv.Itoa(i), got, e, x.e)
	}
}

// TestP6_9Orders sums up lists in several orders, and by another way.
func TestP6_9Orders(t *testing.T) {
	r := rand.New(rand.NewPCG(6, 9))
	for range 2000 {
		want := new(big.Int)
		var l []money.Amount
		for range r.IntN(8) {
			n := anyUnits(r)
			if r.IntN(3) == 0 {
				n = bounds()[r.IntN(len(bounds()))]
			}
			want.Add(want, big.NewInt(int64(n)))
			l = append(l, of(n, "CHF"))
		}
		for range 5 {
			r.Shuffle(len(l), func(i, j int) { l[i], l[j] = l[j], l[i] })
			got, e := money.Sum("CHF", l)
			says(t, "Sum", got, e, want, "CHF")
		}
	}
}

// TestP6_9Undo adds what was taken off, and takes off what was added.
func TestP6_9Undo(t *testing.T) {
	undo := func(a, b money.Amount) {
		t.Helper()
		if sum, e := a.Add(b); e == api.OK {
			back, e := sum.Sub(b)
			holds(t, "Add and Sub: "+tell(a)+", "+tell(b), back, e, a)
		}
		if rest, e := a.Sub(b); e == api.OK {
			back, e := rest.Add(b)
			holds(t, "Sub and Add: "+tell(a)+", "+tell(b), back, e, a)
		}
		if turned, e := b.Neg(); e == api.OK {
			sum, e := a.Add(turned)
			rest, f := a.Sub(b)
			if sum != rest || e != f {
				t.Errorf("Sub is Add of Neg: %s, %s", tell(a), tell(b))
			}
		}
	}
	for _, n := range bounds() {
		for _, m := range bounds() {
			undo(of(n, "KWD"), of(m, "KWD"))
		}
	}
	r := rand.New(rand.NewPCG(69, 6))
	for range 10000 {
		undo(of(anyUnits(r), "GBP"), of(anyUnits(r), "GBP"))
	}
}
