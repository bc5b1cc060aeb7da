package wide_test

import (
	"math/rand/v2"
	"testing"

	"exchequer/api"
	"exchequer/wide"
)

// sum is the sum of two numbers, if both and it itself are there.
func sum(a, b wide.Int, there ...api.Errno) (wide.Int, api.Errno) {
	for _, e := range there {
		if e != api.OK {
			return wide.Int{}, e
		}
	}
	return a.Add(b)
}

// same holds two ways to one number against each other, wherever none of them overflows.
func same(t *testing.T, law string, a wide.Int, e api.Errno, b wide.Int, f api.Errno) {
	t.Helper()
	if e == api.OK && f == api.OK && a != b {
		t.Errorf("%s: %s and %s", law, a, b)
	}
}

// laws holds numbers to the laws of sums and products.
func laws(t *testing.T, a, b, c wide.Int, n, m int) {
	t.Helper()
	ab, e := a.Add(b)
	ba, f := b.Add(a)
	same(t, "a + b = b + a", ab, e, ba, f)
	if e != f {
		t.Errorf("a + b = b + a: %d, %d", e, f)
	}
	left, f := sum(ab, c, e)
	bc, g := b.Add(c)
	right, h := sum(a, bc, g)
	same(t, "(a + b) + c = a + (b + c)", left, f, right, h)
	back, f := ab.Sub(b)
	if e == api.OK && (back != a || f != api.OK) {
		t.Errorf("a + b - b = a: %s, %s, %d", a, back, f)
	}
	an, f := a.MulInt(n)
	bn, g := b.MulInt(n)
	whole, h := ab.MulInt(n)
	if e == api.OK {
		parts, i := sum(an, bn, f, g)
		same(t, "(a + b) * n = a * n + b * n", whole, h, parts, i)
	}
	am, g := a.MulInt(m)
	if anm, h := an.MulInt(m); f == api.OK && g == api.OK {
		amn, i := am.MulInt(n)
		same(t, "a * n * m = a * m * n", anm, h, amn, i)
	}
	if nm, e := wide.Mul(n, m).Int(); f == api.OK && e == api.OK {
		anm, g := an.MulInt(m)
		one, h := a.MulInt(nm)
		same(t, "(a * n) * m = a * (n * m)", anm, g, one, h)
	}
	if wide.Mul(n, m) != wide.Mul(m, n) {
		t.Errorf("n * m = m * n: %d, %d", n, m)
	}
}

// TestP5_5Laws holds small numbers and such as are next to the edges to the laws.
func TestP5_5Laws(t *testing.T) {
	l := edges()
	small := ints()
	r := rand.New(rand.NewPCG(5, 5))
	for range 30000 {
		laws(t, l[r.IntN(len(l))], l[r.IntN(len(l))], l[r.IntN(len(l))], small[r.IntN(len(small))], small[r.IntN(len(small))])
		laws(t, anyWide(r), anyWide(r), anyWide(r), anyInt(r), anyInt(r))
		laws(t, wide.FromInt(anyInt(r)), wide.FromInt(anyInt(r)), wide.FromInt(anyInt(r)), r.IntN(100)-50, r.IntN(100)-50)
	}
}

// divided holds what a division answers to what it was made of: the quotient by d times d and the rest, and how near DivEven is.
func divided(t *testing.T, a wide.Int, d int) {
	t.Helper()
	q, rest, e := a.QuoRem(d)
	if e != api.OK {
		if a != least || d != -1 {
			t.Errorf("%s / %d: %d", a, d, e)
		}
		return
	}
	// q times d lies between 0 and a, and the rest goes on to a.
	product, e := q.MulInt(d)
	whole, f := product.Add(wide.FromInt(rest))
	if e != api.OK || f != api.OK || whole != a {
		t.Errorf("%s / %d: %s, %d", a, d, q, rest)
	}
	if rest != 0 && (rest < 0) != (a.Sign() < 0) {
		t.Errorf("%s / %d: the rest is %d", a, d, rest)
	}
	even, e := a.DivEven(d)
	off, f := even.Sub(q)
	step, g := off.Int()
	if e != api.OK || f != api.OK || g != api.OK || step < -1 || step > 1 {
		t.Errorf("%s / %d: %s, even %s", a, d, q, even)
		return
	}
	// What even times d lacks to a is the rest less the step times d: that never overflows, where even times d may.
	far, _ := wide.FromInt(rest).Sub(wide.Mul(step, d))
	twice, _ := far.MulInt(2)
	bound := wide.FromInt(d)
	if d < 0 {
		bound, _ = bound.Neg()
	}
	if twice.Sign() < 0 {
		twice, _ = twice.Neg()
	}
	if c := twice.Cmp(bound); c > 0 || c == 0 && even.Lo%2 == 1 {
		t.Errorf("%s / %d: %s is %s away", a, d, even, far)
	}
}

// TestP5_5Quotients divides each edge by each int at the edges, and many numbers of any length.
func TestP5_5Quotients(t *testing.T) {
	for _, a := range edges() {
		for _, d := range ints() {
			if d != 0 {
				divided(t, a, d)
			}
		}
	}
	r := rand.New(rand.NewPCG(55, 5))
	for range 20000 {
		if d := anyInt(r); d != 0 {
			divided(t, anyWide(r), d)
			divided(t, wide.FromInt(anyInt(r)), d)
		}
	}
}
