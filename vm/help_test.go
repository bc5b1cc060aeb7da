package vm_test

import (
	"fmt"
	"math/rand/v2"
	"slices"
	"strconv"
	"strings"
	"testing"

	"exchequer/api"
	"exchequer/check"
	"exchequer/dsl"
	"exchequer/vm"
)

// sample is the theory of chapter 10's example.
const sample = "input q : int ; output p : int ; output v : text ; rule r 1 : if q > 3 then p = q * 2 ; rule s 2 : if known p then v = \"x\" ; "

// most is MaxUnits as a text.
const most = "4611686018427387904"

// theory is the theory of a text that has one.
func theory(t *testing.T, s string) dsl.Theory {
	t.Helper()
	x, line, e := dsl.Parse(s)
	if e != api.OK {
		t.Fatalf("%s: %d in line %d", s, e, line)
	}
	return x
}

// source is a theory's text.
func source(x dsl.Theory) string {
	s, _ := dsl.Format(x)
	return s[:min(len(s), 2000)]
}

// program is the program of a theory that has one.
func program(t *testing.T, x dsl.Theory) *vm.Program {
	t.Helper()
	p, item, e := vm.Compile(x)
	if p == nil || item != 0 || e != api.OK {
		t.Fatalf("%s: %v, %d, %d", source(x), p, item, e)
	}
	return p
}

// compiled is the program of a text.
func compiled(t *testing.T, s string) *vm.Program {
	t.Helper()
	return program(t, theory(t, s))
}

// refused holds a theory to have that fault, beside which there is no program.
func refused(t *testing.T, x dsl.Theory, item int, bad api.Errno) {
	t.Helper()
	if p, at, e := vm.Compile(x); p != nil || at != item || e != bad {
		t.Errorf("%s: %v, %d, %d, not %d, %d", source(x), p, at, e, item, bad)
	}
}

// told are facts as a text, all their fields in it.
func told(facts []vm.Fact) string {
	var l []string
	for _, f := range facts {
		switch f {
		case vm.Int(f.Name, f.N):
			l = append(l, f.Name+"="+strconv.Itoa(f.N))
		case vm.Bool(f.Name, f.N == 1):
			l = append(l, f.Name+"="+strconv.FormatBool(f.N == 1))
		case vm.Text(f.Name, f.S):
			l = append(l, f.Name+"="+strconv.Quote(f.S))
		default:
			l = append(l, fmt.Sprintf("%+v", f))
		}
	}
	return strings.Join(l, " ")
}

// failed is how the answer of a run that met an error is told.
func failed(e api.Errno) string { return "error " + strconv.Itoa(int(e)) }

// concluded is what a program concludes of facts, as a text, and how many instructions were done.
func concluded(t *testing.T, p *vm.Program, facts []vm.Fact) (string, int) {
	t.Helper()
	l, done, e := p.Run(facts)
	if e != api.OK {
		if l != nil || done != 0 {
			t.Errorf("%s: %s and %d beside %d", told(facts), told(l), done, e)
		}
		return failed(e), 0
	}
	if done < 0 || done > p.Len() {
		t.Errorf("%s: %d instructions of %d", told(facts), done, p.Len())
	}
	return told(l), done
}

// runs holds what a program concludes of facts against a text.
func runs(t *testing.T, p *vm.Program, want string, facts ...vm.Fact) {
	t.Helper()
	if got, _ := concluded(t, p, facts); got != want {
		t.Errorf("%s: %s, not %s", told(facts), got, want)
	}
}

// fails holds a run of a program over facts to meet an error.
func fails(t *testing.T, p *vm.Program, e api.Errno, facts ...vm.Fact) {
	t.Helper()
	runs(t, p, failed(e), facts...)
}

// pick is one of them, by a chance that is fixed ahead.
func pick[T any](r *rand.Rand, l ...T) T { return l[r.IntN(len(l))] }

// word is a type's word.
func word(kind int) string { return [...]string{"", "int", "bool", "text"}[kind] }

// number of expressions in one, itself included.
func number(x dsl.Expr) int {
	n := 1
	for _, arg := range x.Args {
		n += number(arg)
	}
	return n
}

// anyText is the text of an expression of a type, of so many levels at most, whose names are those declared.
func anyText(r *rand.Rand, want, depth int, l []dsl.Decl) string {
	if depth <= 1 || r.IntN(5) == 0 {
		return anyLeaf(r, want, l)
	}
	join := func(kind int, marks ...string) string {
		return "(" + anyText(r, kind, depth-1, l) + " " + pick(r, marks...) + " " + anyText(r, kind, depth-1, l) + ")"
	}
	switch {
	case want == dsl.TInt && r.IntN(5) == 0:
		return "-" + anyText(r, want, depth-1, l)
	case want == dsl.TInt:
		return join(want, "+", "-", "*", "/", "%")
	case want == dsl.TText:
		return anyLeaf(r, want, l)
	}
	switch r.IntN(5) {
	case 0:
		return "(not " + anyText(r, want, depth-1, l) + ")"
	case 1, 2:
		return join(want, "and", "or")
	case 3:
		return join(dsl.TInt, "<", "<=", ">", ">=")
	}
	return join(1+r.IntN(3), "=", "!=")
}

// anyLeaf is the text of an expression of a type that has none within.
func anyLeaf(r *rand.Rand, want int, l []dsl.Decl) string {
	if want == dsl.TBool && len(l) > 0 && r.IntN(4) == 0 {
		return "known " + pick(r, l...).Name
	}
	for range 4 {
		if len(l) > 0 {
			if d := pick(r, l...); d.Type == want {
				return d.Name
			}
		}
	}
	switch want {
	case dsl.TInt:
		return pick(r, "0", "1", "2", "3", "7", most)
	case dsl.TBool:
		return pick(r, "true", "false")
	}
	return pick(r, `""`, `"x"`, `"y"`)
}

// anyTheory is a theory that is taken: what is declared ahead alone is what a rule asks for.
func anyTheory(r *rand.Rand) dsl.Theory {
	names := []string{"a", "a0", "a_", "aa", "b", "b1", "ba", "c", "z", strings.Repeat("y", 30)}
	r.Shuffle(len(names), func(i, j int) { names[i], names[j] = names[j], names[i] })
	var t dsl.Theory
	for i, s := range names[:1+r.IntN(len(names))] {
		t.Decls = append(t.Decls, dsl.Decl{Name: s, Type: 1 + r.IntN(3), Output: i > 3 || r.IntN(3) == 0})
	}
	for i := range r.IntN(14) {
		at := r.IntN(len(t.Decls))
		if !t.Decls[at].Output {
			continue
		}
		rule := "rule r" + strconv.Itoa(i) + " " + strconv.Itoa(14*r.IntN(3)+i) + " : "
		if r.IntN(3) > 0 {
			rule += "if " + anyText(r, dsl.TBool, 4, t.Decls[:at]) + " "
		}
		x, _, e := dsl.Parse(rule + "then " + t.Decls[at].Name + " = " + anyText(r, t.Decls[at].Type, 4, t.Decls[:at]) + " ;")
		if e != api.OK {
			panic(rule)
		}
		t.Rules = append(t.Rules, x.Rules...)
	}
	return shuffled(r, t)
}

// shuffled is a theory of the same items in any order.
func shuffled(r *rand.Rand, t dsl.Theory) dsl.Theory {
	t.Decls, t.Rules = slices.Clone(t.Decls), slices.Clone(t.Rules)
	r.Shuffle(len(t.Decls), func(i, j int) { t.Decls[i], t.Decls[j] = t.Decls[j], t.Decls[i] })
	r.Shuffle(len(t.Rules), func(i, j int) { t.Rules[i], t.Rules[j] = t.Rules[j], t.Rules[i] })
	return t
}

// anyFact is a fact of a type, now and then none that is taken.
func anyFact(r *rand.Rand, name string, kind int, faults bool) vm.Fact {
	if faults && r.IntN(12) == 0 {
		return vm.Fact{Name: name, Type: pick(r, kind, kind, kind, 0, 1, 2, 3, 4), N: pick(r, 2, -1, api.MaxUnits+1, -api.MaxUnits-1), S: strings.Repeat("x", 200+r.IntN(2))}
	}
	switch kind {
	case dsl.TInt:
		return vm.Fact{Name: name, Type: kind, N: pick(r, 0, 0, 1, 2, 3, 4, -1, -7, 1<<31, r.IntN(1000), -r.IntN(1000), api.MaxUnits, -api.MaxUnits), S: pick(r, "", "x")}
	case dsl.TBool:
		return vm.Fact{Name: name, Type: kind, N: r.IntN(2), S: pick(r, "", "x")}
	}
	return vm.Fact{Name: name, Type: kind, S: pick(r, "", "x", "y", "xx"), N: pick(r, 0, 1)}
}

// anyFacts are facts of some of a theory's inputs, in any order; now and then others, too.
func anyFacts(r *rand.Rand, t dsl.Theory, faults bool) []vm.Fact {
	var l []vm.Fact
	for _, d := range t.Decls {
		if !d.Output && r.IntN(4) > 0 {
			l = append(l, anyFact(r, d.Name, d.Type, faults))
		}
	}
	if faults && r.IntN(8) == 0 {
		l = append(l, anyFact(r, pick(r, "a", "b", "c", "none", ""), 1+r.IntN(3), true))
	}
	r.Shuffle(len(l), func(i, j int) { l[i], l[j] = l[j], l[i] })
	return l
}

// kindOf is the type of an expression's text over declarations.
func kindOf(t *testing.T, s string, l []dsl.Decl) int {
	t.Helper()
	x, e := dsl.ParseExpr(s)
	kind, bad := check.Type(x, l)
	if e != api.OK || bad != api.OK {
		t.Fatalf("%s: %d, %d", s, e, bad)
	}
	return kind
}
