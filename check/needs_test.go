package check_test

import (
	"math/rand/v2"
	"slices"
	"strings"
	"testing"

	"exchequer/check"
	"exchequer/dsl"
)

// needs holds the names that an expression needs against some.
func needs(t *testing.T, x dsl.Expr, want string) {
	t.Helper()
	if l := check.Needs(x); !slices.Equal(l, strings.Fields(want)) {
		t.Errorf("%s: %q, not %q", tell(x), l, want)
	}
}

// TestP10_2Texts asks for the names of expressions that are read: each once, by their bytes.
func TestP10_2Texts(t *testing.T) {
	for s, want := range map[string]string{
		"1": "", `"a"`: "", "true": "", "a": "a", "known a": "a", "a + a": "a", "a + known a": "a", "b + a": "a b", "a + b": "a b", "c * (b - a)": "a b c", "not known z or -y = x": "x y z", `z = "y" and x != "z"`: "x z", "b + a * known c - a": "a b c", "aa = a_ or a0 = a or b = a1": "a a0 a1 a_ aa b", "b or ab or a or ba": "a ab b ba", "(((a)))": "a", "zz < z and known z_z": "z z_z zz",
		"- - - a % -b / -known c": "a b c", "a or b or c or b or a": "a b c", "c and (b and (a and c))": "a b c",
	} {
		needs(t, expr(t, s), want)
	}
}

// TestP10_2Whatever asks for the names of what has no type, or no form.
func TestP10_2Whatever(t *testing.T) {
	needs(t, dsl.Expr{}, "")
	needs(t, dsl.Expr{S: "a"}, "")
	needs(t, dsl.Expr{Op: dsl.EText, S: "a", Args: []dsl.Expr{name("b")}}, "b")
	needs(t, dsl.Expr{Op: dsl.EName, N: 7, S: "c", Args: []dsl.Expr{name("b"), known("a"), name("c")}}, "a b c")
	needs(t, op(77, name("b"), op(-1, name("a")), op(0, known("c"))), "a b c")
	needs(t, op(dsl.ENeg, name("c"), name("b"), name("a"), name("b")), "a b c")
	needs(t, op(dsl.EAdd, str("a"), known("if")), "if")
	needs(t, op(dsl.EAdd, name("é"), op(dsl.EAdd, name("Z"), op(dsl.EAdd, name("\xff"), name("a")))), "Z a é \xff")
	for _, n := range []int{31, 32, 33, 1000, 1 << 16} {
		needs(t, op(dsl.EAdd, negated(n, name("b")), name("a")), "a b")
	}
	wide := dsl.Expr{Op: dsl.EAdd, Args: slices.Repeat([]dsl.Expr{name("b"), known("a")}, 50000)}
	needs(t, wide, "a b")
}

// TestP10_2Shared asks for the names of expressions that stand in more places of others than could be gone over one by one.
func TestP10_2Shared(t *testing.T) {
	for _, n := range []int{1, 31, 32, 64, 1000} {
		needs(t, doubled(n, dsl.EAdd, name("b")), "b")
		needs(t, op(dsl.EOr, doubled(n, dsl.EAdd, op(dsl.EEq, known("b"), name("c"))), name("a")), "a b c")
		needs(t, doubled(n, dsl.EAdd, num(1)), "")
	}
}

// namesOf are all names of an expression, as they stand.
func namesOf(x dsl.Expr) []string {
	var l []string
	if x.Op == dsl.EName || x.Op == dsl.EKnown {
		l = append(l, x.S)
	}
	for _, y := range x.Args {
		l = append(l, namesOf(y)...)
	}
	return l
}

// TestP10_2Any holds names against the promise's words.
func TestP10_2Any(t *testing.T) {
	r := rand.New(rand.NewPCG(10, 2))
	l := decls("i:1 b:2 s:3 j:1! c:2! i0:3 i_:1 ii:2 a:1 z:2")
	for range 10000 {
		x := anyExpr(r, 1+r.IntN(8), l)
		want := namesOf(x)
		slices.Sort(want)
		needs(t, x, strings.Join(slices.Compact(want), " "))
	}
}
