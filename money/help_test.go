package money_test

import (
	"math"
	"math/big"
	"math/rand/v2"
	"strconv"
	"testing"

	"exchequer/api"
	"exchequer/money"
)

// most is the greatest number of units, and without its sign the least.
const most = 1 << 62

// of is an amount.
func of(units int, cur string) money.Amount { return money.Amount{Units: units, Cur: cur} }

// usd is amounts of one currency.
func usd(units ...int) []money.Amount {
	var l []money.Amount
	for _, n := range units {
		l = append(l, of(n, "USD"))
	}
	return l
}

// tell is an amount as it is, be it one that may be or not.
func tell(a money.Amount) string { return strconv.Itoa(a.Units) + " units of " + strconv.Quote(a.Cur) }

// codes are the currencies' codes.
func codes() []string { return []string{"CHF", "EUR", "GBP", "JPY", "KWD", "USD"} }

// noCodes are texts that are no currency's code.
func noCodes() []string {
	return []string{"", "XXX", "usd", "Usd", "USDX", "US", "USD ", " USD", "DUS", "EURUSD", "U\x00D", "\xff", "USD\n", "CHE", "ZZZ", "AAA", "€"}
}

// bounds are units at the edges that an amount may have.
func bounds() []int {
	return []int{0, 1, -1, 2, -2, 9, 10, -10, 99, 100, 101, -99, -100, 999, 1000, -1000, 1001, most - 1, -most + 1, most, -most}
}

// beyond are units that no amount may have.
func beyond() []int {
	return []int{most + 1, -most - 1, most + 2, -most - 2, math.MaxInt, -math.MaxInt, math.MinInt}
}

// wrongs are amounts that may not be, and why.
func wrongs() map[money.Amount]api.Errno {
	l := map[money.Amount]api.Errno{{}: api.ErrCurrency}
	for _, n := range beyond() {
		for _, cur := range codes() {
			l[of(n, cur)] = api.ErrRange
		}
	}
	for _, cur := range noCodes() {
		l[of(1, cur)], l[of(most+1, cur)], l[of(math.MinInt, cur)] = api.ErrCurrency, api.ErrCurrency, api.ErrCurrency
	}
	return l
}

// anyUnits is units of any length, by a chance that is fixed ahead.
func anyUnits(r *rand.Rand) int { return int(r.Uint64()) >> (1 + r.IntN(62)) }

// holds holds an answer against an amount.
func holds(t *testing.T, what string, got money.Amount, e api.Errno, want money.Amount) {
	t.Helper()
	if got != want || e != api.OK {
		t.Errorf("%s: %s, %d, not %s", what, tell(got), e, tell(want))
	}
}

// fails holds an answer against an error, beside which there is nothing.
func fails(t *testing.T, what string, got money.Amount, e, want api.Errno) {
	t.Helper()
	if got != (money.Amount{}) || e != want {
		t.Errorf("%s: %s, %d, not %d", what, tell(got), e, want)
	}
}

// says holds an answer against a number of units: that many, or ErrOverflow if no amount may have them.
func says(t *testing.T, what string, got money.Amount, e api.Errno, want *big.Int, cur string) {
	t.Helper()
	if want.CmpAbs(big.NewInt(most)) > 0 {
		fails(t, what, got, e, api.ErrOverflow)
		return
	}
	holds(t, what, got, e, of(int(want.Int64()), cur))
}
