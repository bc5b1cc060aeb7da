package dsl_test

import (
	"math/rand/v2"
	"strings"
	"testing"

	"exchequer/api"
	"exchequer/dsl"
)

// TestP9_6Expressions reads what was printed, which is the same expression, and prints what was read, which is the same text.
func TestP9_6Expressions(t *testing.T) {
	r := rand.New(rand.NewPCG(9, 6))
	for range 20000 {
		x := anyExpr(r, 1+r.IntN(6))
		s := text(t, x)
		if y := expr(t, s); !same(x, y) {
			t.Errorf("%s: %s: %s", show(x), tell(s), show(y))
		}
		y := expr(t, joined(r, pieces(r, x)))
		prints(t, y, s)
	}
	for o := dsl.EOr; o <= dsl.ENeg; o++ {
		for n := range 32 {
			reads(t, text(t, levels(n, o)), levels(n, o))
		}
	}
	for _, x := range []dsl.Expr{doubled(10, name("a")), filled(api.MaxText), str(strings.Repeat(`\"`, 50)), num(api.MaxUnits), known(letters(30))} {
		if y := expr(t, text(t, x)); !same(x, y) {
			t.Errorf("%s", show(y))
		}
	}
}

// TestP9_6Theories reads what was printed, which is the same theory, and prints what was read, which is the same text.
func TestP9_6Theories(t *testing.T) {
	r := rand.New(rand.NewPCG(96, 9))
	for range 5000 {
		x := anyTheory(r)
		s := form(t, x)
		if y := theory(t, s); !sameTheory(x, y) {
			t.Errorf("%s: %s: %s", show(x), tell(s), show(y))
		}
		read := theory(t, joined(r, theoryPieces(r, x)))
		if again := form(t, read); again != s {
			t.Errorf("%s, not %s", tell(again), tell(s))
		}
	}
	for _, s := range []string{items(100), strings.Repeat("rule r 1:then p=1;", 100), "", "input q:int;rule r 1:if q>3 then p=q*2;" + items(40)} {
		x := theory(t, s)
		first := form(t, x)
		y := theory(t, first)
		if !sameTheory(x, y) || form(t, y) != first {
			t.Errorf("%s: %s", tell(s), tell(first))
		}
	}
}

// TestP9_6Long reads texts whose forms are too long.
func TestP9_6Long(t *testing.T) {
	s := "a"
	for range 12 {
		s = "(" + s + ")+(" + s + ")"
	}
	if x := expr(t, s); !same(x, doubled(12, name("a"))) || !same(x, expr(t, text(t, x))) {
		t.Errorf("%s", show(x))
	}
	row := "aa" + strings.Repeat("+aa", 15)
	tight := "rule r 1:then p=" + strings.Repeat("("+row+")*", 15) + "a;"
	whole := strings.Repeat(tight, api.MaxText/len(tight))
	y := theory(t, whole)
	noForm(t, y, api.ErrLong)
	y.Rules = y.Rules[:len(y.Rules)/2]
	if !sameTheory(theory(t, form(t, y)), y) {
		t.Errorf("%s", show(y))
	}
}

// TestP9_7Blanks reads texts of one theory, of which blanks, comments and parentheses that are not needed make no other one.
func TestP9_7Blanks(t *testing.T) {
	r := rand.New(rand.NewPCG(9, 7))
	for range 3000 {
		x := anyTheory(r)
		for range 4 {
			s := joined(r, theoryPieces(r, x))
			if y := theory(t, s); !sameTheory(x, y) {
				t.Errorf("%s: %s, not %s", tell(s), show(y), show(x))
			}
		}
		plain := strings.Join(theoryPieces(r, x), " ")
		if y := theory(t, plain); !sameTheory(x, y) {
			t.Errorf("%s: %s", tell(plain), show(y))
		}
	}
	want := theory(t, "input q:int;rule r 1:if q>3 then p=q*2;")
	for _, s := range []string{"input q : int ; rule r 1 : if q > 3 then p = q * 2 ;", "\tinput\nq\r:\tint\n;rule\rr\t1\n:if\rq>3\tthen\np=q*2;\n", "#\ninput#\nq#\n:#\nint#\n;#\nrule#\nr#\n1#\n:#\nif#\nq#\n>#\n3#\nthen#\np#\n=#\nq#\n*#\n2#\n;#", "input q:int;rule r 1:if((q)>(3))then p=(((q)*((2))));"} {
		if x := theory(t, s); !sameTheory(x, want) {
			t.Errorf("%s: %s", tell(s), show(x))
		}
	}
}

// TestP9_7Parentheses puts parentheses round each part of expressions, as often as there is room.
func TestP9_7Parentheses(t *testing.T) {
	r := rand.New(rand.NewPCG(97, 9))
	for range 2000 {
		x := anyExpr(r, 5)
		s := text(t, x)
		for _, n := range []int{1, 2, 40, 1000} {
			if y := expr(t, strings.Repeat("(", n)+s+strings.Repeat(")", n)); !same(x, y) {
				t.Errorf("%s: %s", tell(s), show(y))
			}
		}
	}
	for s, plain := range map[string]string{"(a*b)+c": "a*b+c", "a+(b*c)": "a+b*c", "(a+b)+c": "a+b+c", "not(a=b)": "not a=b", "(not a)and b": "not a and b", "a or(b and c)": "a or b and c", "(a+b)<(c*d)": "a+b<c*d", "-(-a)": "--a", "-(known a)": "-known a", "(-a)*b": "-a*b", "a-(-b)": "a--b", "not(not(a))": "not not a"} {
		if !same(expr(t, s), expr(t, plain)) {
			t.Errorf("%s, %s", s, plain)
		}
	}
}
