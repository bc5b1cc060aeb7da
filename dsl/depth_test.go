package dsl_test

import (
	"math/rand/v2"
	"testing"

	"exchequer/api"
	"exchequer/dsl"
)

// TestP9_2Depth counts levels: Args count, whatever the Op is; parentheses do not.
func TestP9_2Depth(t *testing.T) {
	a := name("a")
	for i, x := range []struct {
		e    dsl.Expr
		want int
	}{
		{a, 1}, {dsl.Expr{}, 1}, {dsl.Expr{Args: []dsl.Expr{}}, 1}, {num(-1), 1}, {dsl.Expr{Op: 99, N: 7, S: "x"}, 1}, {op(dsl.ENeg, a), 2}, {op(dsl.EAdd, a, a), 2}, {op(dsl.EAdd, a, op(dsl.ENeg, a)), 3}, {op(dsl.EAdd, op(dsl.ENeg, a), a), 3}, {op(dsl.ENum, a), 2}, {op(0, op(-1, op(99, a))), 4}, {op(dsl.EOr, a, a, a, op(dsl.ENot, a), a), 3}, {dsl.Expr{Op: dsl.EName, S: "a", Args: make([]dsl.Expr, 5)}, 2},
		{op(dsl.EAnd, levels(3, dsl.ENot), levels(5, dsl.EMul)), 7}, {op(dsl.EAnd, levels(5, dsl.ENot), levels(3, dsl.EMul)), 7}, {levels(31, dsl.EAdd), 32}, {levels(32, dsl.EAdd), 33}, {levels(1000, dsl.ENeg), 1001}, {levels(1<<16, dsl.EOr), 1<<16 + 1},
	} {
		if n := dsl.Depth(x.e); n != x.want {
			t.Errorf("%d: %d, not %d", i, n, x.want)
		}
	}
	for s, want := range map[string]int{"a": 1, "((((a))))": 1, "a+b": 2, "((a)+((b)))": 2, "a+b+c": 3, "a+(b+c)": 3, "(a+b)*(c+d)": 3, "a+b*-2 < 3": 5, "not known a": 2, "- - a": 3} {
		if n := dsl.Depth(expr(t, s)); n != want {
			t.Errorf("%s: %d, not %d", s, n, want)
		}
	}
}

// plain is an expression's depth by what the promise says.
func plain(x dsl.Expr) int {
	n := 0
	for _, y := range x.Args {
		n = max(n, plain(y))
	}
	return n + 1
}

// TestP9_2Any holds depths against the promise's words.
func TestP9_2Any(t *testing.T) {
	r := rand.New(rand.NewPCG(9, 2))
	for range 2000 {
		if x := anyExpr(r, 9); dsl.Depth(x) != plain(x) {
			t.Errorf("%s: %d", show(x), dsl.Depth(x))
		}
	}
}

// TestP9_2Shared asks of expressions that stand in more places of others than could be gone over one by one.
func TestP9_2Shared(t *testing.T) {
	for _, n := range []int{1, 14, 31, 32, 64, 1000} {
		x := doubled(n, name("a"))
		if got := dsl.Depth(x); got != n+1 {
			t.Errorf("%d: %d", n, got)
		}
		if got := dsl.Depth(op(dsl.EAdd, num(1), x, levels(n+1, dsl.ENot))); got != n+3 {
			t.Errorf("%d: %d", n, got)
		}
		want := api.ErrLong
		switch {
		case n == 1:
			continue
		case n > 31:
			want = api.ErrDeep
		}
		if _, e := dsl.FormatExpr(x); e != want {
			t.Errorf("%d: %d", n, e)
		}
		if want == api.ErrLong {
			want = api.ErrForm
		}
		if _, e := dsl.FormatExpr(doubled(n, name("if"))); e != want {
			t.Errorf("%d: %d", n, e)
		}
	}
	row := make([]dsl.Expr, 50)
	for i := range row {
		row[i] = dsl.Expr{Op: dsl.EAdd, Args: row[:i]}
	}
	if n := dsl.Depth(row[49]); n != 50 {
		t.Errorf("%d", n)
	}
}
