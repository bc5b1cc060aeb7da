package check_test

import (
	"math"
	"slices"
	"strconv"
	"strings"
	"testing"

	"exchequer/api"
	"exchequer/dsl"
)

// TestP10_3Examples holds the chapter's table.
func TestP10_3Examples(t *testing.T) {
	plans(t, theory(t, sample), "p[0] v[1]")
	refused(t, theory(t, sample+"rule u 1 : then p = 1 ;"), 6, api.ErrRank)
	refused(t, theory(t, sample+`rule u 5 : if v = "y" then p = 1 ;`), 0, api.ErrCycle)
	refused(t, theory(t, sample+"rule u 5 : then q = 1 ;"), 6, api.ErrType)
	refused(t, theory(t, sample+`rule u 5 : then p = "x" ;`), 6, api.ErrType)
	refused(t, theory(t, sample+"rule u 5 : then p = z ;"), 6, api.ErrUnknown)
}

// TestP10_3Many checks theories of as many items as there may be, and refuses those of more, ahead of all else.
func TestP10_3Many(t *testing.T) {
	of := func(inputs, outputs, rules int) dsl.Theory {
		var x dsl.Theory
		for i := range inputs {
			x.Decls = append(x.Decls, dsl.Decl{Name: "i" + strconv.Itoa(i), Type: dsl.TInt})
		}
		for i := range outputs {
			x.Decls = append(x.Decls, dsl.Decl{Name: "o" + strconv.Itoa(i), Type: dsl.TInt, Output: true})
		}
		for i := range rules {
			x.Rules = append(x.Rules, dsl.Rule{Name: "r" + strconv.Itoa(i), Rank: i, Target: "o0", Then: num(1)})
		}
		return x
	}
	for _, n := range [][3]int{{100, 0, 0}, {0, 100, 0}, {0, 1, 99}, {50, 1, 49}, {1, 1, 98}, {98, 1, 1}, {33, 33, 34}, {0, 99, 1}} {
		p := planned(t, of(n[0], n[1], n[2]))
		if len(p.Order) != n[1] || n[1] > 0 && (p.Order[0] != "o0" || len(p.Rules[0]) != n[2]) {
			t.Errorf("%v: %s", n, told(p))
		}
		refused(t, of(n[0]+1, n[1], n[2]), 0, api.ErrMany)
		refused(t, of(n[0], n[1]+1, n[2]), 0, api.ErrMany)
		refused(t, of(n[0], n[1], n[2]+1), 0, api.ErrMany)
	}
	refused(t, of(101, 0, 0), 0, api.ErrMany)
	refused(t, dsl.Theory{Decls: make([]dsl.Decl, 101)}, 0, api.ErrMany)
	refused(t, dsl.Theory{Rules: make([]dsl.Rule, 101)}, 0, api.ErrMany)
	refused(t, dsl.Theory{Decls: make([]dsl.Decl, 50), Rules: make([]dsl.Rule, 51)}, 0, api.ErrMany)
	refused(t, dsl.Theory{Decls: make([]dsl.Decl, 50), Rules: make([]dsl.Rule, 50)}, 1, api.ErrForm)
	refused(t, dsl.Theory{Rules: make([]dsl.Rule, 100)}, 1, api.ErrForm)
	refused(t, dsl.Theory{Decls: make([]dsl.Decl, 100000), Rules: make([]dsl.Rule, 100000)}, 0, api.ErrMany)
}

// badNames are texts that are no names.
func badNames() []string {
	return append(strings.Fields("input output rule if then or and not known true false int bool text A aB 1 1a _a a-b a.b"), "", " ", "a b", " a", "a ", "a\n", "\u00e9", "\x00", "a\xff", letters(31), letters(100000))
}

// TestP10_3Decls refuses declarations with a name or a type that is none, or with a name that stands ahead.
func TestP10_3Decls(t *testing.T) {
	// What stands behind has faults, too, but is never reached.
	rules := []dsl.Rule{{Name: "R", Rank: -1}}
	for n := range 3 {
		front := decls("i:1 j:2!")[:n]
		for _, d := range []dsl.Decl{{Name: "a", Type: dsl.TInt}, {Name: "a", Type: dsl.TText, Output: true}} {
			with := func(name string, kind int) dsl.Theory {
				x := dsl.Decl{Name: name, Type: kind, Output: d.Output}
				return dsl.Theory{Decls: append(slices.Clone(front), x, dsl.Decl{Name: "If"}, x), Rules: rules}
			}
			for _, s := range badNames() {
				refused(t, with(s, d.Type), n+1, api.ErrForm)
			}
			for _, kind := range []int{0, 4, 5, -1, math.MinInt, math.MaxInt} {
				refused(t, with("a", kind), n+1, api.ErrForm)
			}
			refused(t, with("a", d.Type), n+2, api.ErrForm)
			if n > 0 {
				refused(t, with("i", d.Type), n+1, api.ErrTwice)
				refused(t, with("i", 4), n+1, api.ErrForm)
			}
			if n > 1 {
				refused(t, with("j", d.Type), n+1, api.ErrTwice)
			}
		}
	}
	refused(t, dsl.Theory{Decls: decls("a:1 b:2 b:2 a:1 If:1")}, 3, api.ErrTwice)
	refused(t, dsl.Theory{Decls: decls("a:1 b:2 a:1! b:2 If:1")}, 3, api.ErrTwice)
	refused(t, dsl.Theory{Decls: decls("a:1 b:2 c:4 b:2 a:1")}, 3, api.ErrForm)
	refused(t, dsl.Theory{Decls: decls("If:1 If:1")}, 1, api.ErrForm)
	plans(t, dsl.Theory{Decls: decls("a:1 aa:1! a0:2 a_:3! " + letters(30) + ":1!")}, "a_[] aa[] "+letters(30)+"[]")
}

// ruled is a theory with an input q, an output p and an output v, a rule ahead, and rules.
func ruled(l ...dsl.Rule) dsl.Theory {
	return dsl.Theory{Decls: decls("q:1 p:1! v:3!"), Rules: append([]dsl.Rule{{Name: "r", Rank: 1, Target: "p", Then: num(1)}}, l...)}
}

// TestP10_3Heads refuses rules with a name, a target or a rank that is none, or with a name that stands ahead.
func TestP10_3Heads(t *testing.T) {
	bad := dsl.Rule{Name: "R"}
	for _, s := range badNames() {
		refused(t, ruled(dsl.Rule{Name: s, Target: "p", Then: num(1)}, bad), 5, api.ErrForm)
		refused(t, ruled(dsl.Rule{Name: "s", Target: s, Then: num(1)}, bad), 5, api.ErrForm)
		refused(t, ruled(dsl.Rule{Name: "r", Target: s, Then: num(1)}, bad), 5, api.ErrForm)
		refused(t, dsl.Theory{Decls: []dsl.Decl{{Name: "p", Type: 1, Output: true}}, Rules: []dsl.Rule{{Name: s, Target: "p", Then: num(1)}}}, 2, api.ErrForm)
	}
	for _, n := range []int{-1, math.MinInt, api.MaxUnits + 1, math.MaxInt} {
		refused(t, ruled(dsl.Rule{Name: "s", Rank: n, Target: "p", Then: num(1)}, bad), 5, api.ErrForm)
		refused(t, ruled(dsl.Rule{Name: "r", Rank: n, Target: "z", Then: num(1)}, bad), 5, api.ErrForm)
	}
	for _, n := range []int{0, 2, api.MaxUnits - 1, api.MaxUnits} {
		want := "p[1 0] v[]"
		if n == 0 {
			want = "p[0 1] v[]"
		}
		plans(t, ruled(dsl.Rule{Name: letters(30), Rank: n, Target: "p", Then: num(1)}), want)
		refused(t, ruled(dsl.Rule{Name: "r", Rank: n, Target: "p", Then: num(1)}, bad), 5, api.ErrTwice)
	}
	good := dsl.Rule{Name: "s", Rank: 2, Target: "v", Then: str("")}
	refused(t, ruled(good, dsl.Rule{Name: "r", Rank: 2, Target: "v", Then: str("")}, bad), 6, api.ErrTwice)
	refused(t, ruled(good, dsl.Rule{Name: "s", Rank: 2, Target: "p", Then: num(2)}, bad), 6, api.ErrTwice)
	refused(t, ruled(good, dsl.Rule{Name: "u", Rank: 2, Target: "p", Then: num(2)}, bad), 7, api.ErrForm)
	// A rule may have the name of what is declared.
	plans(t, ruled(dsl.Rule{Name: "p", Rank: 2, Target: "p", Then: num(2)}, dsl.Rule{Name: "q", Rank: 2, Target: "v", Then: str("")}), "p[1 0] v[2]")
}

// TestP10_3Targets refuses rules for what is no output.
func TestP10_3Targets(t *testing.T) {
	for s, want := range map[string]api.Errno{"q": api.ErrType, "z": api.ErrUnknown, "r": api.ErrUnknown, "pp": api.ErrUnknown, "p0": api.ErrUnknown, letters(30): api.ErrUnknown} {
		for _, then := range []dsl.Expr{num(1), str(""), num(-1), name("z"), negated(40, num(1))} {
			refused(t, ruled(dsl.Rule{Name: "s", Rank: 1, Target: s, Then: then}), 5, want)
			refused(t, ruled(dsl.Rule{Name: "s", Rank: 1, Target: s, If: num(1), Then: then}), 5, want)
		}
	}
}

// TestP10_3If takes rules that always hold, and refuses those whose If has a fault, or is no bool.
func TestP10_3If(t *testing.T) {
	for _, x := range []dsl.Expr{{}, {Args: []dsl.Expr{}}, truth(0), truth(1), known("q"), known("p"), name("b"), op(dsl.ENot, known("q")), op(dsl.EEq, name("p"), name("q"))} {
		y := ruled(dsl.Rule{Name: "s", Rank: 1, Target: "v", If: x, Then: str("")})
		y.Decls = append(y.Decls, decls("b:2")...)
		plans(t, y, "p[0] v[1]")
	}
	for _, x := range []dsl.Expr{{N: 1}, {N: -1}, {N: math.MinInt}, {S: "x"}, {S: " "}, {Args: []dsl.Expr{num(1)}}, {Args: []dsl.Expr{{}}}, {Args: []dsl.Expr{known("q")}}, {Op: -1}, {Op: 21}, {Op: -1, N: 1, S: "x"}} {
		refused(t, ruled(dsl.Rule{Name: "s", Rank: 1, Target: "v", If: x, Then: str("")}), 5, api.ErrForm)
	}
	refused(t, ruled(dsl.Rule{Name: "s", Rank: 1, Target: "v", If: op(0, name("z")), Then: str("")}), 5, api.ErrUnknown)
	refused(t, ruled(dsl.Rule{Name: "s", Rank: 1, Target: "v", If: op(0, op(dsl.ENeg, str(""))), Then: str("")}), 5, api.ErrType)
	refused(t, ruled(dsl.Rule{Name: "s", Rank: 1, Target: "v", If: op(0, negated(30, num(1))), Then: str("")}), 5, api.ErrForm)
	refused(t, ruled(dsl.Rule{Name: "s", Rank: 1, Target: "v", If: op(0, negated(31, num(1))), Then: str("")}), 5, api.ErrDeep)
	for _, x := range []dsl.Expr{num(0), num(1), name("q"), name("p"), name("v"), str(""), str("true"), op(dsl.ENeg, num(1)), negated(31, num(1))} {
		refused(t, ruled(dsl.Rule{Name: "s", Rank: 1, Target: "v", If: x, Then: str("")}), 5, api.ErrType)
	}
}

// TestP10_3Then refuses rules whose Then has a fault, or is not of the target's type.
func TestP10_3Then(t *testing.T) {
	of := []dsl.Expr{num(1), truth(1), str("")}
	for target := 1; target <= 3; target++ {
		for then := 1; then <= 3; then++ {
			x := dsl.Theory{Decls: []dsl.Decl{{Name: "p", Type: target, Output: true}}, Rules: []dsl.Rule{{Name: "r", Target: "p", Then: of[then-1]}}}
			if target == then {
				plans(t, x, "p[0]")
				continue
			}
			refused(t, x, 2, api.ErrType)
		}
	}
	for want, l := range map[api.Errno][]dsl.Expr{api.ErrForm: {{}, {Args: []dsl.Expr{}}, num(-1), {Op: 21}, name("if")}, api.ErrUnknown: {name("z"), known("z"), op(dsl.ENeg, name("z"))}, api.ErrType: {str(""), known("q"), name("v"), op(dsl.ENeg, str("")), op(dsl.EAdd, num(1), truth(1))}, api.ErrDeep: {negated(32, num(1)), negated(1000, str(""))}} {
		for _, x := range l {
			refused(t, ruled(dsl.Rule{Name: "s", Rank: 2, Target: "p", Then: x}), 5, want)
		}
	}
	plans(t, ruled(dsl.Rule{Name: "s", Rank: 2, Target: "p", Then: negated(31, num(1)), If: op(dsl.ELt, negated(30, name("q")), num(1))}), "p[1 0] v[]")
}

// TestP10_3Rank refuses two rules of one rank for one output, and takes those for two.
func TestP10_3Rank(t *testing.T) {
	rule := func(name string, rank int, target string) dsl.Rule {
		then := num(1)
		if target == "v" {
			then = str("")
		}
		return dsl.Rule{Name: name, Rank: rank, Target: target, Then: then}
	}
	for _, n := range []int{0, 1, 5, api.MaxUnits} {
		refused(t, ruled(rule("s", n, "v"), rule("u", 3, "v"), rule("w", n, "v"), dsl.Rule{Name: "R"}), 7, api.ErrRank)
		refused(t, ruled(rule("s", 3, "v"), rule("u", n, "v"), rule("w", n, "v"), dsl.Rule{Name: "R"}), 7, api.ErrRank)
		planned(t, ruled(rule("s", n, "v"), rule("u", 3, "v"), rule("w", 4, "v"), rule("x", 7, "p")))
	}
	// The rule that ruled has ahead is for p, of rank 1.
	refused(t, ruled(rule("s", 1, "p")), 5, api.ErrRank)
	for _, x := range []dsl.Rule{{If: truth(0), Then: num(1)}, {If: known("q"), Then: num(7)}, {Then: name("q")}} {
		x.Name, x.Target, x.Rank = "s", "p", 1
		refused(t, ruled(x, dsl.Rule{Name: "R"}), 5, api.ErrRank)
	}
	plans(t, ruled(rule("s", 1, "v"), rule("u", 2, "p"), rule("w", 2, "v"), rule("x", 0, "p")), "p[2 0 4] v[3 1]")
}

// TestP10_3First asks which of a rule's faults is told, over all ways in which it may have several.
func TestP10_3First(t *testing.T) {
	type way struct {
		set func(r *dsl.Rule)
		e   api.Errno
	}
	good := way{func(*dsl.Rule) {}, api.OK}
	holds := func(x dsl.Expr, e api.Errno) way { return way{func(r *dsl.Rule) { r.If = x }, e} }
	then := func(x dsl.Expr, e api.Errno) way { return way{func(r *dsl.Rule) { r.Then = x }, e} }
	// The last fault of a rule is a rank that stands ahead.
	parts := [][]way{
		{good, {func(r *dsl.Rule) { r.Rank = -1 }, api.ErrForm}},
		{good, {func(r *dsl.Rule) { r.Name = "r" }, api.ErrTwice}},
		{good, {func(r *dsl.Rule) { r.Target = "z" }, api.ErrUnknown}, {func(r *dsl.Rule) { r.Target = "q" }, api.ErrType}},
		{good, holds(known("p"), api.OK), holds(num(1), api.ErrType), holds(name("z"), api.ErrUnknown), holds(num(-1), api.ErrForm), holds(negated(32, truth(1)), api.ErrDeep)},
		{then(num(1), api.OK), then(name("p"), api.OK), then(str(""), api.ErrType), then(known("z"), api.ErrUnknown), then(dsl.Expr{}, api.ErrForm), then(negated(32, num(1)), api.ErrDeep)},
		{good, {func(r *dsl.Rule) { r.Rank |= 1 }, api.ErrRank}},
	}
	var all func(r dsl.Rule, e api.Errno, left [][]way)
	all = func(r dsl.Rule, e api.Errno, left [][]way) {
		if len(left) == 0 {
			first(t, r, e)
			return
		}
		for _, x := range left[0] {
			y, bad := r, e
			x.set(&y)
			if bad == api.OK {
				bad = x.e
			}
			all(y, bad, left[1:])
		}
	}
	all(dsl.Rule{Name: "s", Target: "p"}, api.OK, parts)
}

// first holds the first fault of a rule against one, whatever stands ahead or behind; and a circle is told behind all else.
func first(t *testing.T, r dsl.Rule, e api.Errno) {
	t.Helper()
	none, circle := dsl.Rule{Name: "R"}, dsl.Rule{Name: "w", Target: "v", If: known("v"), Then: str("")}
	switch {
	case e != api.OK:
		refused(t, ruled(r, none), 5, e)
		refused(t, ruled(circle, r, none), 6, e)
	case r.If.Op == dsl.EKnown || r.Then.Op == dsl.EName:
		refused(t, ruled(r), 0, api.ErrCycle)
		refused(t, ruled(r, none), 6, api.ErrForm)
	default:
		plans(t, ruled(r), "p[0 1] v[]")
		refused(t, ruled(r, circle), 0, api.ErrCycle)
	}
}

// TestP10_3Items asks for the number of an item that has a fault, with others behind that have one, too.
func TestP10_3Items(t *testing.T) {
	for n := 1; n <= 20; n++ {
		for at := range n {
			var x dsl.Theory
			for i := range n {
				d := dsl.Decl{Name: "d" + strconv.Itoa(i), Type: dsl.TInt, Output: true}
				x.Decls = append(x.Decls, d)
				x.Rules = append(x.Rules, dsl.Rule{Name: "r" + strconv.Itoa(i), Target: d.Name, Then: num(1)})
			}
			planned(t, x)
			for i := at; i < n; i++ {
				x.Rules[i].Then = name("z")
			}
			refused(t, x, n+at+1, api.ErrUnknown)
			for i := at; i < n; i++ {
				x.Decls[i].Type = 0
			}
			refused(t, x, at+1, api.ErrForm)
		}
	}
}
