package check_test

import (
	"fmt"
	"math/rand/v2"
	"slices"
	"strconv"
	"strings"
	"testing"

	"exchequer/api"
	"exchequer/check"
	"exchequer/dsl"
)

// sample is the chapter's example.
const sample = "input q : int ; output p : int ; output v : text ; rule r 1 : if q > 3 then p = q * 2 ; rule s 2 : if known p then v = \"x\" ; "

// op is an expression of others.
func op(n int, l ...dsl.Expr) dsl.Expr { return dsl.Expr{Op: n, Args: l} }

// name is a name.
func name(s string) dsl.Expr { return dsl.Expr{Op: dsl.EName, S: s} }

// num is a number.
func num(n int) dsl.Expr { return dsl.Expr{Op: dsl.ENum, N: n} }

// str is a text.
func str(s string) dsl.Expr { return dsl.Expr{Op: dsl.EText, S: s} }

// truth is true or false.
func truth(n int) dsl.Expr { return dsl.Expr{Op: dsl.EBool, N: n} }

// known asks for a name.
func known(s string) dsl.Expr { return dsl.Expr{Op: dsl.EKnown, S: s} }

// letters is a name, if it isn't too long.
func letters(n int) string { return strings.Repeat("a", n) }

// negated is an expression below so many ENeg.
func negated(n int, x dsl.Expr) dsl.Expr {
	for range n {
		x = op(dsl.ENeg, x)
	}
	return x
}

// doubled is so many times over two of what was there: it stands in more places than could be gone over.
func doubled(n, o int, x dsl.Expr) dsl.Expr {
	for range n {
		x = op(o, x, x)
	}
	return x
}

// decls are declarations: each is a name and a type, the outputs' with a mark behind.
func decls(s string) []dsl.Decl {
	var l []dsl.Decl
	for _, x := range strings.Fields(s) {
		name, kind, _ := strings.Cut(strings.TrimSuffix(x, "!"), ":")
		n, _ := strconv.Atoi(kind)
		l = append(l, dsl.Decl{Name: name, Type: n, Output: strings.HasSuffix(x, "!")})
	}
	return l
}

// cut is the upper part of an expression, as the whole of it may have no end that could be waited for.
func cut(x dsl.Expr, levels int) dsl.Expr {
	args := x.Args
	x.Args, x.S = nil, x.S[:min(len(x.S), 40)]
	for _, arg := range args[:min(len(args), 4)] {
		if levels > 0 {
			x.Args = append(x.Args, cut(arg, levels-1))
		}
	}
	return x
}

// tell is the beginning of what something is.
func tell(x any) string {
	switch y := x.(type) {
	case dsl.Expr:
		x = cut(y, 4)
	case dsl.Theory:
		y.Rules = slices.Clone(y.Rules)
		for i, r := range y.Rules {
			y.Rules[i].If, y.Rules[i].Then = cut(r.If, 4), cut(r.Then, 4)
		}
		x = y
	}
	s := fmt.Sprintf("%+v", x)
	if len(s) > 300 {
		return s[:300] + " and so on"
	}
	return s
}

// expr is the expression of a text that has one.
func expr(t *testing.T, s string) dsl.Expr {
	t.Helper()
	x, e := dsl.ParseExpr(s)
	if e != api.OK {
		t.Fatalf("%s: %d", tell(s), e)
	}
	return x
}

// theory is the theory of a text that has one.
func theory(t *testing.T, s string) dsl.Theory {
	t.Helper()
	x, line, e := dsl.Parse(s)
	if line != 0 || e != api.OK {
		t.Fatalf("%s: %d in line %d", tell(s), e, line)
	}
	return x
}

// typed holds an expression's type, or its error, against one.
func typed(t *testing.T, x dsl.Expr, l []dsl.Decl, want int, bad api.Errno) {
	t.Helper()
	if got, e := check.Type(x, l); got != want || e != bad {
		t.Errorf("%s: %d, %d, not %d, %d", tell(x), got, e, want, bad)
	}
}

// untyped holds an expression to have no type, alone and as If and Then of a rule.
func untyped(t *testing.T, x dsl.Expr, l []dsl.Decl, bad api.Errno) {
	t.Helper()
	typed(t, x, l, 0, bad)
	of := append(slices.Clone(l), dsl.Decl{Name: "target_of_it", Type: dsl.TInt, Output: true})
	if x.Op != 0 || x.N != 0 || x.S != "" || len(x.Args) > 0 {
		refused(t, dsl.Theory{Decls: of, Rules: []dsl.Rule{{Name: "r", Target: "target_of_it", If: x, Then: str("")}}}, len(of)+1, bad)
	}
	refused(t, dsl.Theory{Decls: of, Rules: []dsl.Rule{{Name: "r", Target: "target_of_it", Then: x}}}, len(of)+1, bad)
}

// refused holds a theory to have that fault, beside which there is no plan.
func refused(t *testing.T, x dsl.Theory, item int, bad api.Errno) {
	t.Helper()
	if p, at, e := check.Check(x); at != item || e != bad || p.Order != nil || p.Rules != nil {
		t.Errorf("%s: %s, %d, %d, not %d, %d", tell(x), tell(p), at, e, item, bad)
	}
}

// planned is the plan of a theory that has one.
func planned(t *testing.T, x dsl.Theory) check.Plan {
	t.Helper()
	p, at, e := check.Check(x)
	if at != 0 || e != api.OK || len(p.Order) != len(p.Rules) {
		t.Fatalf("%s: %s, %d, %d", tell(x), tell(p), at, e)
	}
	return p
}

// plans holds a theory's plan against one: the outputs, each with its rules' numbers behind.
func plans(t *testing.T, x dsl.Theory, want string) {
	t.Helper()
	if got := told(planned(t, x)); got != want {
		t.Errorf("%s: %s, not %s", tell(x), got, want)
	}
}

// told is a plan as a text.
func told(p check.Plan) string {
	var l []string
	for i, s := range p.Order {
		l = append(l, s+fmt.Sprint(p.Rules[i]))
	}
	return strings.Join(l, " ")
}

// pick is one of them, by a chance that is fixed ahead.
func pick[T any](r *rand.Rand, l ...T) T { return l[r.IntN(len(l))] }

// anyOf is an expression of a type, of so many levels at most, whose names are those declared.
func anyOf(r *rand.Rand, want, depth int, l []dsl.Decl) dsl.Expr {
	if depth <= 1 || r.IntN(4) == 0 {
		return leafOf(r, want, l)
	}
	within := func(kind int) dsl.Expr { return anyOf(r, kind, depth-1, l) }
	switch {
	case want == dsl.TInt && r.IntN(4) == 0:
		return op(dsl.ENeg, within(dsl.TInt))
	case want == dsl.TInt:
		return op(pick(r, dsl.EAdd, dsl.ESub, dsl.EMul, dsl.EDiv, dsl.EMod), within(dsl.TInt), within(dsl.TInt))
	case want == dsl.TText:
		return leafOf(r, want, l)
	}
	switch o := dsl.EOr + r.IntN(dsl.EGe-dsl.EOr+1); o {
	case dsl.EOr, dsl.EAnd:
		return op(o, within(dsl.TBool), within(dsl.TBool))
	case dsl.ENot:
		return op(o, within(dsl.TBool))
	case dsl.EEq, dsl.ENe:
		kind := 1 + r.IntN(3)
		return op(o, within(kind), within(kind))
	default:
		return op(o, within(dsl.TInt), within(dsl.TInt))
	}
}

// leafOf is an expression of a type without Args, whose name is one of those declared.
func leafOf(r *rand.Rand, want int, l []dsl.Decl) dsl.Expr {
	if want == dsl.TBool && len(l) > 0 && r.IntN(3) == 0 {
		return known(pick(r, l...).Name)
	}
	for range 3 {
		if len(l) > 0 {
			if d := pick(r, l...); d.Type == want {
				return name(d.Name)
			}
		}
	}
	switch want {
	case dsl.TInt:
		return num(pick(r, 0, 1, 7, api.MaxUnits))
	case dsl.TBool:
		return truth(r.IntN(2))
	}
	return str(pick(r, "", "x", `"`))
}

// anyTheory is a theory whose items alone have no fault. Its outputs may hang on themselves, more seldom where they hang on few.
func anyTheory(r *rand.Rand) dsl.Theory {
	var t dsl.Theory
	names := []string{"a", "a0", "a_", "aa", "b", "b1", "ba", "c", "z", letters(30)}
	r.Shuffle(len(names), func(i, j int) { names[i], names[j] = names[j], names[i] })
	for _, s := range names[:r.IntN(len(names)+1)] {
		t.Decls = append(t.Decls, dsl.Decl{Name: s, Type: 1 + r.IntN(3), Output: r.IntN(4) > 0})
	}
	behind, rules := r.IntN(8) == 0, r.IntN(12)
	for i := range rules {
		at := r.IntN(len(t.Decls) + 1)
		if at == len(t.Decls) || !t.Decls[at].Output {
			continue
		}
		// A rule that asks for what is declared ahead alone makes no circle.
		ahead := t.Decls[:at]
		if behind {
			ahead = t.Decls
		}
		x := dsl.Rule{Name: "r" + strconv.Itoa(i), Rank: rules * r.IntN(3), Target: t.Decls[at].Name, Then: anyOf(r, t.Decls[at].Type, 3, ahead)}
		if r.IntN(2) == 0 {
			x.If = anyOf(r, dsl.TBool, 4, ahead)
		}
		for slices.ContainsFunc(t.Rules, func(y dsl.Rule) bool { return y.Target == x.Target && y.Rank == x.Rank }) {
			x.Rank++
		}
		t.Rules = append(t.Rules, x)
	}
	return shuffled(r, t)
}

// shuffled is a theory of the same items in any order.
func shuffled(r *rand.Rand, t dsl.Theory) dsl.Theory {
	t.Decls, t.Rules = slices.Clone(t.Decls), slices.Clone(t.Rules)
	r.Shuffle(len(t.Decls), func(i, j int) { t.Decls[i], t.Decls[j] = t.Decls[j], t.Decls[i] })
	r.Shuffle(len(t.Rules), func(i, j int) { t.Rules[i], t.Rules[j] = t.Rules[j], t.Rules[i] })
	return t
}

// same: are two expressions alike in all fields?
func same(a, b dsl.Expr) bool {
	return a.Op == b.Op && a.N == b.N && a.S == b.S && slices.EqualFunc(a.Args, b.Args, same)
}

// sameTheory: are two theories alike in all fields?
func sameTheory(a, b dsl.Theory) bool {
	return slices.Equal(a.Decls, b.Decls) && slices.EqualFunc(a.Rules, b.Rules, func(x, y dsl.Rule) bool {
		return x.Name == y.Name && x.Rank == y.Rank && x.Target == y.Target && same(x.If, y.If) && same(x.Then, y.Then)
	})
}
