package money_test

import (
	"slices"
	"strings"
	"testing"
	"unsafe"

	"exchequer/api"
	"exchequer/money"
)

// all is the currencies that the document names.
func all() []money.Currency {
	return []money.Currency{{Code: "CHF", Scale: 2}, {Code: "EUR", Scale: 2}, {Code: "GBP", Scale: 2}, {Code: "JPY", Scale: 0}, {Code: "KWD", Scale: 3}, {Code: "USD", Scale: 2}}
}

// TestP6_1Currencies names each currency, and none besides.
func TestP6_1Currencies(t *testing.T) {
	if got := money.Currencies(); !slices.Equal(got, all()) {
		t.Errorf("%v", got)
	}
	for _, c := range all() {
		if scale, e := money.Scale(c.Code); scale != c.Scale || e != api.OK {
			t.Errorf("%s: %d, %d", c.Code, scale, e)
		}
	}
	for _, cur := range noCodes() {
		if scale, e := money.Scale(cur); scale != 0 || e != api.ErrCurrency {
			t.Errorf("%q: %d, %d", cur, scale, e)
		}
	}
}

// TestP6_1New makes amounts at the bounds, and such as may not be.
func TestP6_1New(t *testing.T) {
	for _, cur := range codes() {
		for _, n := range bounds() {
			a, e := money.New(n, cur)
			holds(t, cur, a, e, of(n, cur))
		}
	}
	for a, want := range wrongs() {
		got, e := money.New(a.Units, a.Cur)
		fails(t, tell(a), got, e, want)
	}
}

// TestP6_1MayBe asks each call with amounts that may not be: their error is told ahead of any other.
func TestP6_1MayBe(t *testing.T) {
	for a, want := range wrongs() {
		if s := a.String(); s != "" {
			t.Errorf("String: %s: %s", tell(a), s)
		}
		got, e := a.Neg()
		fails(t, "Neg: "+tell(a), got, e, want)
		for _, den := range []int{0, 1} {
			got, e = a.Ratio(1, den)
			fails(t, "Ratio: "+tell(a), got, e, want)
		}
		for _, weights := range [][]int{nil, {0}, {-1}, {1, 1}, make([]int, api.MaxWeights+1)} {
			if l, e := a.Allocate(weights); len(l) != 0 || e != want {
				t.Errorf("Allocate: %s: %v, %d, not %d", tell(a), l, e, want)
			}
		}
	}
}

// TestP6_6In hands in lists that have spare room, and finds them as they were, and the answers not to hang on them.
func TestP6_6In(t *testing.T) {
	weights := []int{3, 0, 1, 1 << 31, 7, 9, 9}
	kept := slices.Clone(weights)
	parts, _ := of(1001, "USD").Allocate(weights[:4])
	was := slices.Clone(parts)
	if !slices.Equal(weights, kept) {
		t.Errorf("%v", weights)
	}
	clear(weights)
	if !slices.Equal(parts, was) {
		t.Errorf("%v, not %v", parts, was)
	}
	l := usd(5, -3, most, 4, 4)
	before := slices.Clone(l)
	money.Sum("USD", l[:3])
	money.Sum("EUR", l)
	if !slices.Equal(l, before) {
		t.Errorf("%v", l)
	}
	weights = []int{1, 1<<31 + 1, -1}
	of(5, "USD").Allocate(weights)
	if !slices.Equal(weights, []int{1, 1<<31 + 1, -1}) {
		t.Errorf("%v", weights)
	}
}

// TestP6_6Out spoils answers, their spare room too: later ones are as they were.
func TestP6_6Out(t *testing.T) {
	for range 3 {
		l := money.Currencies()
		if !slices.Equal(l, all()) {
			t.Errorf("%v", l)
		}
		m := money.Currencies()
		l = append(l, money.Currency{Code: "XXX", Scale: 1})
		clear(l[:cap(l)])
		if !slices.Equal(m, all()) {
			t.Errorf("%v", m)
		}
		if scale, e := money.Scale("KWD"); scale != 3 || e != api.OK {
			t.Errorf("KWD: %d, %d", scale, e)
		}
	}
	weights := []int{1, 1, 1}
	l, _ := of(100, "USD").Allocate(weights)
	m, _ := of(100, "USD").Allocate(weights)
	clear(append(l[:cap(l)], money.Amount{}))
	clear(l)
	if !slices.Equal(m, usd(34, 33, 33)) {
		t.Errorf("%v", m)
	}
	if m, _ = of(100, "USD").Allocate(weights); !slices.Equal(m, usd(34, 33, 33)) {
		t.Errorf("%v", m)
	}
}

// shares: does a text have its memory from another?
func shares(s, from string) bool {
	for i := range len(from) {
		if unsafe.StringData(from[i:]) == unsafe.StringData(s) {
			return true
		}
	}
	return false
}

// TestP6_6Codes hands in codes, of which no answer keeps the memory.
func TestP6_6Codes(t *testing.T) {
	text := strings.Clone("12.30 USD")
	if a, _ := money.Parse(text); shares(a.Cur, text) {
		t.Error("Parse")
	}
	cur := strings.Clone("USD")
	a, b := of(5, cur), of(7, cur)
	made, _ := money.New(5, cur)
	sum, _ := a.Add(b)
	less, _ := a.Sub(b)
	turned, _ := a.Neg()
	half, _ := a.Ratio(1, 2)
	whole, _ := money.Sum(cur, []money.Amount{a, b})
	parts, _ := a.Allocate([]int{1, 1})
	for i, x := range append(parts, made, sum, less, turned, half, whole) {
		if shares(x.Cur, cur) || x.Cur != "USD" {
			t.Errorf("%d: %s", i, tell(x))
		}
	}
}
