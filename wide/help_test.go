package wide_test

import (
	"math"
	"math/big"
	"math/rand/v2"
	"testing"

	"exchequer/api"
	"exchequer/wide"
)

// The words that numbers are written out with.
const (
	ones = math.MaxUint64
	top  = 1 << 63
)

// The bounds.
var (
	least    = wide.Int{Hi: top}
	greatest = wide.Int{Hi: top - 1, Lo: ones}
)

// power is a power of 2.
func power(n uint) *big.Int { return new(big.Int).Lsh(big.NewInt(1), n) }

// value is what the bits of an Int say, told by another way than the package's own.
func value(a wide.Int) *big.Int {
	n := new(big.Int).SetUint64(a.Hi)
	n.Lsh(n, 64).Add(n, new(big.Int).SetUint64(a.Lo))
	if a.Hi >= top {
		n.Sub(n, power(128))
	}
	return n
}

// within: is it a number of 128 bits?
func within(n *big.Int) bool {
	return n.Cmp(power(127)) < 0 && n.Cmp(new(big.Int).Neg(power(127))) >= 0
}

// wideOf is the Int of a number that is within the bounds.
func wideOf(n *big.Int) wide.Int {
	m := new(big.Int).Add(n, power(128))
	lo := new(big.Int).And(m, new(big.Int).Sub(power(64), big.NewInt(1)))
	hi := m.Rsh(m, 64)
	return wide.Int{Hi: hi.And(hi, new(big.Int).SetUint64(ones)).Uint64(), Lo: lo.Uint64()}
}

// says holds an answer against a number: that one, or ErrOverflow and nothing if it is out of the bounds.
func says(t *testing.T, what string, got wide.Int, e api.Errno, want *big.Int) {
	t.Helper()
	if !within(want) {
		fails(t, what, got, e, api.ErrOverflow)
		return
	}
	if e != api.OK || got != wideOf(want) {
		t.Errorf("%s: %s, %d, not %s", what, value(got), e, want)
	}
}

// fails holds an answer against an error, beside which there is nothing.
func fails(t *testing.T, what string, got wide.Int, e, want api.Errno) {
	t.Helper()
	if e != want || got != (wide.Int{}) {
		t.Errorf("%s: %s, %d, not %d", what, value(got), e, want)
	}
}

// ints are the ints at the edges.
func ints() []int {
	l := []int{0, 1, -1, 2, -2, 3, -3, 5, -5, 7, -7, 10, -10, 1 << 31, -1 << 31, 1 << 32, 1<<32 + 1, 1<<62 - 1, 1 << 62, 1<<62 + 1, -1 << 62, -1<<62 - 1, -1<<62 + 1}
	return append(l, math.MaxInt, math.MaxInt-1, -math.MaxInt, math.MinInt, math.MinInt+1, math.MinInt+2, 1e18, -1e18)
}

// edges are the numbers next to the powers of 2 at which words and bounds end, on both sides of them and of 0.
func edges() []wide.Int {
	var l []wide.Int
	for _, n := range []uint{0, 1, 2, 31, 32, 62, 63, 64, 65, 95, 126, 127} {
		for d := int64(-3); d <= 3; d++ {
			m := new(big.Int).Add(power(n), big.NewInt(d))
			for _, x := range []*big.Int{m, new(big.Int).Neg(m)} {
				if within(x) {
					l = append(l, wideOf(x))
				}
			}
		}
	}
	return l
}

// anyInt is an int of any length, by a chance that is fixed ahead.
func anyInt(r *rand.Rand) int { return int(r.Uint64()) >> r.IntN(64) }

// anyWide is a number of any length, by a chance that is fixed ahead.
func anyWide(r *rand.Rand) wide.Int {
	n := value(wide.Int{Hi: r.Uint64(), Lo: r.Uint64()})
	return wideOf(n.Rsh(n, uint(r.IntN(128))))
}
