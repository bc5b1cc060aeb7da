package dsl_test

import (
	"math"
	"strings"
	"testing"

	"exchequer/api"
	"exchequer/dsl"
)

// TestP9_4Lines prints theories, line by line.
func TestP9_4Lines(t *testing.T) {
	q := dsl.Decl{Name: "q", Type: dsl.TInt}
	r := dsl.Rule{Name: "r", Rank: 1, If: op(dsl.EGt, name("q"), num(3)), Target: "p", Then: op(dsl.EMul, name("q"), num(2))}
	for want, x := range map[string]dsl.Theory{
		"": {}, "input q : int ;\n": {Decls: []dsl.Decl{q}}, "input q : bool ;\noutput v : text ;\ninput q : int ;\n": {Decls: []dsl.Decl{{Name: "q", Type: dsl.TBool}, {Name: "v", Type: dsl.TText, Output: true}, q}}, "output p : int ;\noutput p : bool ;\n": {Decls: []dsl.Decl{{Name: "p", Type: 1, Output: true}, {Name: "p", Type: 2, Output: true}}},
		"rule r 1 : if q > 3 then p = q * 2 ;\n": {Rules: []dsl.Rule{r}}, "rule s 0 : then v = \"x\" ;\n": {Rules: []dsl.Rule{{Name: "s", Target: "v", Then: str("x")}}}, "rule s 0 : then v = a = b ;\n": {Rules: []dsl.Rule{{Name: "s", Target: "v", Then: op(dsl.EEq, name("a"), name("b")), If: dsl.Expr{Args: []dsl.Expr{}}}}},
		"input q : int ;\nrule r 1 : if q > 3 then p = q * 2 ;\nrule s 4611686018427387904 : if false then p = -1 ;\n": {Decls: []dsl.Decl{q}, Rules: []dsl.Rule{r, {Name: "s", Rank: api.MaxUnits, If: truth(0), Target: "p", Then: op(dsl.ENeg, num(1))}}},
	} {
		if s, e := dsl.Format(x); s != want || e != api.OK {
			t.Errorf("%s, %d, not %s", tell(s), e, tell(want))
		}
	}
	from := `rule s 2:then v="x";output v:text;rule r 1:if q>3 then p=q*2;# ;` + "\ninput q:int;output p:int;"
	if s := form(t, theory(t, from)); s != "output v : text ;\ninput q : int ;\noutput p : int ;\nrule s 2 : then v = \"x\" ;\nrule r 1 : if q > 3 then p = q * 2 ;\n" {
		t.Errorf("%s", tell(s))
	}
	if s := form(t, theory(t, "")); s != "" {
		t.Errorf("%s", tell(s))
	}
}

// TestP9_4Form refuses theories with a name that is none, a type that is none, or a rank out of its bounds.
func TestP9_4Form(t *testing.T) {
	none := append(strings.Fields(words), "", "A", "1", "_a", "a-b", "a b", " a", "a\n", "\u00e9", "\x00", letters(31), letters(100000))
	for _, s := range none {
		noForm(t, dsl.Theory{Decls: []dsl.Decl{{Name: s, Type: dsl.TInt}}}, api.ErrForm)
		noForm(t, dsl.Theory{Decls: []dsl.Decl{{Name: "a", Type: dsl.TInt}, {Name: s, Type: dsl.TInt, Output: true}}}, api.ErrForm)
		noForm(t, dsl.Theory{Rules: []dsl.Rule{{Name: s, Target: "p", Then: num(1)}}}, api.ErrForm)
		noForm(t, dsl.Theory{Rules: []dsl.Rule{{Name: "r", Target: s, Then: num(1)}}}, api.ErrForm)
	}
	for _, n := range []int{0, 4, 5, -1, math.MinInt, math.MaxInt} {
		noForm(t, dsl.Theory{Decls: []dsl.Decl{{Name: "a", Type: n}}}, api.ErrForm)
		noForm(t, dsl.Theory{Decls: []dsl.Decl{{Name: "a", Type: 1}, {Name: "b", Type: n}}}, api.ErrForm)
	}
	for _, n := range []int{-1, math.MinInt, api.MaxUnits + 1, math.MaxInt} {
		noForm(t, dsl.Theory{Rules: []dsl.Rule{{Name: "r", Rank: n, Target: "p", Then: num(1)}}}, api.ErrForm)
	}
	for _, n := range []int{0, 1, api.MaxUnits} {
		form(t, dsl.Theory{Rules: []dsl.Rule{{Name: letters(30), Rank: n, Target: letters(30), Then: num(1)}}})
	}
	for _, x := range []dsl.Expr{{N: 1}, {N: -1}, {S: "a"}, {Args: []dsl.Expr{{}}}, {Op: 21}, {Op: -1}} {
		noForm(t, ruled(x, num(1)), api.ErrForm)
	}
	noForm(t, ruled(dsl.Expr{}, dsl.Expr{}), api.ErrForm)
	form(t, ruled(dsl.Expr{}, num(1)))
}

// TestP9_4First refuses theories with several faults: the first one is told.
func TestP9_4First(t *testing.T) {
	good, bad := dsl.Rule{Name: "r", Target: "p", Then: num(1)}, dsl.Rule{Name: "R", Target: "p", Then: num(1)}
	with := func(r dsl.Rule, holds, then dsl.Expr) dsl.Rule {
		r.If, r.Then = holds, then
		return r
	}
	deep, long, none := levels(32, dsl.ENeg), filled(api.MaxText+1), num(-1)
	decl := []dsl.Decl{{Name: "A", Type: 1}}
	for i, x := range []struct {
		t dsl.Theory
		e api.Errno
	}{
		{dsl.Theory{Decls: decl, Rules: []dsl.Rule{with(good, deep, deep)}}, api.ErrForm},
		{dsl.Theory{Rules: []dsl.Rule{with(bad, deep, deep)}}, api.ErrForm},
		{dsl.Theory{Rules: []dsl.Rule{with(dsl.Rule{Name: "r", Target: "P"}, deep, deep)}}, api.ErrForm},
		{dsl.Theory{Rules: []dsl.Rule{with(dsl.Rule{Name: "r", Target: "p", Rank: -1}, deep, deep)}}, api.ErrForm},
		{dsl.Theory{Rules: []dsl.Rule{with(good, deep, none)}}, api.ErrDeep},
		{dsl.Theory{Rules: []dsl.Rule{with(good, none, deep)}}, api.ErrForm},
		{dsl.Theory{Rules: []dsl.Rule{with(good, long, none)}}, api.ErrLong},
		{dsl.Theory{Rules: []dsl.Rule{with(good, none, long)}}, api.ErrForm},
		{dsl.Theory{Rules: []dsl.Rule{with(good, dsl.Expr{}, long), bad}}, api.ErrLong},
		{dsl.Theory{Rules: []dsl.Rule{good, bad, with(good, deep, deep)}}, api.ErrForm},
		{dsl.Theory{Rules: []dsl.Rule{good, with(good, dsl.Expr{}, deep), bad}}, api.ErrDeep},
		{dsl.Theory{Rules: []dsl.Rule{with(good, filled(40000), filled(40000)), bad}}, api.ErrForm},
		{dsl.Theory{Rules: []dsl.Rule{with(good, filled(40000), filled(40000)), with(good, deep, none)}}, api.ErrDeep},
		{dsl.Theory{Rules: []dsl.Rule{with(good, filled(40000), filled(40000)), good}}, api.ErrLong},
		{dsl.Theory{Rules: []dsl.Rule{with(good, dsl.Expr{Args: []dsl.Expr{deep}}, none)}}, api.ErrDeep},
		{dsl.Theory{Decls: make([]dsl.Decl, 60), Rules: make([]dsl.Rule, 41)}, api.ErrMany},
		{dsl.Theory{Decls: make([]dsl.Decl, 60), Rules: make([]dsl.Rule, 40)}, api.ErrForm},
		{dsl.Theory{Rules: append(make([]dsl.Rule, 100), with(good, deep, long))}, api.ErrMany},
	} {
		if s, e := dsl.Format(x.t); s != "" || e != x.e {
			t.Errorf("%d: %s, %d, not %d", i, tell(s), e, x.e)
		}
	}
}

// TestP9_4Many prints theories of as many items as there may be, and refuses those of more, ahead of all else.
func TestP9_4Many(t *testing.T) {
	decls := func(n int) []dsl.Decl { return theory(t, strings.Repeat("input a:int;", n)).Decls }
	rules := func(n int) []dsl.Rule { return theory(t, strings.Repeat("rule r 1:then p=1;", n)).Rules }
	for _, n := range []int{0, 1, 50, 99, 100} {
		s := form(t, dsl.Theory{Decls: decls(n), Rules: rules(100 - n)})
		if s != strings.Repeat("input a : int ;\n", n)+strings.Repeat("rule r 1 : then p = 1 ;\n", 100-n) {
			t.Errorf("%d: %s", n, tell(s))
		}
		noForm(t, dsl.Theory{Decls: append(decls(n), dsl.Decl{Name: "a", Type: 1}), Rules: rules(100 - n)}, api.ErrMany)
		noForm(t, dsl.Theory{Decls: append([]dsl.Decl{{}}, decls(n)...), Rules: rules(100 - n)}, api.ErrMany)
		noForm(t, dsl.Theory{Decls: decls(n), Rules: append(rules(100-n), dsl.Rule{})}, api.ErrMany)
	}
	noForm(t, dsl.Theory{Decls: make([]dsl.Decl, 100000)}, api.ErrMany)
	noForm(t, dsl.Theory{Rules: make([]dsl.Rule, 100000)}, api.ErrMany)
}

// TestP9_4Long prints a text of as many bytes as it may have, and refuses one of one more.
func TestP9_4Long(t *testing.T) {
	of := func(size int) dsl.Theory {
		const others = len("input q : int ;\nrule r 0 : if  then p =  ;\n")
		x := theory(t, "input q:int;rule r 0:then p=1;")
		x.Rules[0].If, x.Rules[0].Then = filled(30000), filled(size-others-30000)
		return x
	}
	for d := range 20 {
		n := api.MaxText - 10 + d
		if n > api.MaxText {
			noForm(t, of(n), api.ErrLong)
		} else if s := form(t, of(n)); len(s) != n || !sameTheory(theory(t, s), of(n)) {
			t.Errorf("%d: %d bytes", n, len(s))
		}
	}
}
