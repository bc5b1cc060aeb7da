package dsl_test

import (
	"math/rand/v2"
	"slices"
	"strings"
	"testing"
	"unsafe"

	"exchequer/api"
	"exchequer/dsl"
)

// held is a text in memory that can be written to.
func held(s string) (string, []byte) {
	b := []byte(s)
	return unsafe.String(unsafe.SliceData(b), len(b)), b
}

// shares: has a text its memory from other memory?
func shares(s string, from []byte) bool {
	at, first := uintptr(unsafe.Pointer(unsafe.StringData(s))), uintptr(unsafe.Pointer(unsafe.SliceData(from)))
	return s != "" && at >= first && at < first+uintptr(len(from))
}

// spare is what stands in the room behind lists that are handed in.
var spare = dsl.Expr{Op: 77, S: "spare"}

// twin is an expression like another one, in other memory, with spare room behind its lists that says something.
func twin(x dsl.Expr) dsl.Expr {
	y := dsl.Expr{Op: x.Op, N: x.N, S: strings.Clone(x.S)}
	if x.Args == nil {
		return y
	}
	y.Args = make([]dsl.Expr, 0, len(x.Args)+2)
	for _, arg := range x.Args {
		y.Args = append(y.Args, twin(arg))
	}
	y.Args[:cap(y.Args)][len(x.Args)] = spare
	return y
}

// twinTheory is a theory like another one, in other memory, with spare room behind its lists that says something.
func twinTheory(t dsl.Theory) dsl.Theory {
	var u dsl.Theory
	for _, d := range t.Decls {
		u.Decls = append(u.Decls, dsl.Decl{Name: strings.Clone(d.Name), Type: d.Type, Output: d.Output})
	}
	for _, r := range t.Rules {
		u.Rules = append(u.Rules, dsl.Rule{Name: strings.Clone(r.Name), Rank: r.Rank, If: twin(r.If), Target: strings.Clone(r.Target), Then: twin(r.Then)})
	}
	u.Decls = append(u.Decls, dsl.Decl{Name: "spare"})[:len(u.Decls)]
	u.Rules = append(u.Rules, dsl.Rule{Name: "spare"})[:len(u.Rules)]
	return u
}

// untouched: is an expression that was made by twin as it was, its spare room too?
func untouched(x dsl.Expr) bool {
	return x.Args == nil || same(x.Args[:cap(x.Args)][len(x.Args)], spare) && !slices.ContainsFunc(x.Args, func(y dsl.Expr) bool { return !untouched(y) })
}

// untouchedTheory: is a theory that was made by twinTheory as it was, its spare room too?
func untouchedTheory(t dsl.Theory) bool {
	if t.Decls[:cap(t.Decls)][len(t.Decls)].Name != "spare" || t.Rules[:cap(t.Rules)][len(t.Rules)].Name != "spare" {
		return false
	}
	return !slices.ContainsFunc(t.Rules, func(r dsl.Rule) bool { return !untouched(r.If) || !untouched(r.Then) })
}

// spoil writes to all of an expression's lists, and to their spare room.
func spoil(x dsl.Expr) {
	for _, y := range x.Args {
		spoil(y)
	}
	all := x.Args[:cap(x.Args)]
	for i := range all {
		all[i] = dsl.Expr{Op: 99, N: -1, S: "spoilt", Args: []dsl.Expr{spare}}
	}
}

// spoilTheory writes to all of a theory's lists, and to their spare room.
func spoilTheory(t dsl.Theory) {
	for _, r := range t.Rules {
		spoil(r.If)
		spoil(r.Then)
	}
	decls, rules := t.Decls[:cap(t.Decls)], t.Rules[:cap(t.Rules)]
	for i := range decls {
		decls[i] = dsl.Decl{Name: "spoilt", Type: -1}
	}
	for i := range rules {
		rules[i] = dsl.Rule{Name: "spoilt", Rank: -1}
	}
}

// texts are all texts of an expression.
func texts(x dsl.Expr) []string {
	l := []string{x.S}
	for _, y := range x.Args {
		l = append(l, texts(y)...)
	}
	return l
}

// textsOf are all texts of a theory.
func textsOf(t dsl.Theory) []string {
	var l []string
	for _, d := range t.Decls {
		l = append(l, d.Name)
	}
	for _, r := range t.Rules {
		l = append(append(append(l, r.Name, r.Target), texts(r.If)...), texts(r.Then)...)
	}
	return l
}

// TestP9_5ParseExpr reads texts that are spoilt then, and spoils what was read: nothing hangs on the other.
func TestP9_5ParseExpr(t *testing.T) {
	r := rand.New(rand.NewPCG(9, 5))
	for range 1000 {
		x := anyExpr(r, 5)
		was := joined(r, pieces(r, x))
		s, b := held(was)
		one, e := dsl.ParseExpr(s)
		other, too := dsl.ParseExpr(s)
		if e != api.OK || too != api.OK || s != was {
			t.Fatalf("%s: %d, %d", tell(was), e, too)
		}
		for _, part := range texts(one) {
			if shares(part, b) {
				t.Errorf("%s: %s is the same memory", tell(was), part)
			}
		}
		for i := range b {
			b[i] ^= 0x55
		}
		if !same(one, x) || !same(other, x) {
			t.Errorf("%s: %s", tell(was), show(one))
		}
		if spoil(one); !same(other, x) {
			t.Errorf("%s: %s", tell(was), show(other))
		}
	}
}

// TestP9_5Parse reads texts that are spoilt then, and spoils what was read: nothing hangs on the other.
func TestP9_5Parse(t *testing.T) {
	r := rand.New(rand.NewPCG(95, 9))
	for range 1000 {
		x := anyTheory(r)
		was := joined(r, theoryPieces(r, x))
		s, b := held(was)
		one, _, e := dsl.Parse(s)
		other, _, too := dsl.Parse(s)
		if e != api.OK || too != api.OK || s != was {
			t.Fatalf("%s: %d, %d", tell(was), e, too)
		}
		for _, part := range textsOf(one) {
			if shares(part, b) {
				t.Errorf("%s: %s is the same memory", tell(was), part)
			}
		}
		for i := range b {
			b[i] ^= 0x55
		}
		if !sameTheory(one, x) || !sameTheory(other, x) {
			t.Errorf("%s: %s", tell(was), show(one))
		}
		if spoilTheory(one); !sameTheory(other, x) {
			t.Errorf("%s: %s", tell(was), show(other))
		}
	}
}

// lists are all lists of an expression.
func lists(x *dsl.Expr) []*[]dsl.Expr {
	l := []*[]dsl.Expr{&x.Args}
	for i := range x.Args {
		l = append(l, lists(&x.Args[i])...)
	}
	return l
}

// TestP9_5Lists writes behind each list of an answer: no other list changes.
func TestP9_5Lists(t *testing.T) {
	s := "input q:int;rule r 1:if not a+b*-c=(d-1)/2 or e and f then p=-g+h*(i%2);output p:int;rule s 2:then p=-(-a-b);output v:int;rule u 3:if a or b or c then p=1;"
	all := func(x *dsl.Theory) []*[]dsl.Expr {
		var l []*[]dsl.Expr
		for i := range x.Rules {
			l = append(append(l, lists(&x.Rules[i].If)...), lists(&x.Rules[i].Then)...)
		}
		return l
	}
	whole := theory(t, s)
	for i := range all(&whole) {
		x := theory(t, s)
		list := all(&x)[i]
		kept := twin(dsl.Expr{Args: *list})
		for range 3 {
			_ = append(*list, dsl.Expr{Op: 99}, dsl.Expr{Op: 98})
			*list = slices.Grow(*list, 1)
		}
		if !same(kept, dsl.Expr{Args: *list}) || !sameTheory(x, whole) {
			t.Errorf("%d: %s", i, show(x))
		}
	}
	x := theory(t, s)
	_, _ = append(x.Decls, dsl.Decl{Name: "y"}), append(x.Rules, dsl.Rule{Name: "y"})
	if !sameTheory(x, whole) {
		t.Errorf("%s", show(x))
	}
}

// TestP9_5FormatExpr prints expressions that are as they were, their spare room too, and spoils them: no text hangs on them.
func TestP9_5FormatExpr(t *testing.T) {
	r := rand.New(rand.NewPCG(59, 9))
	for i := range 1000 {
		x := anyExpr(r, 5)
		switch i % 10 {
		case 0:
			x = op(dsl.EAdd, x, dsl.Expr{Op: 99, Args: []dsl.Expr{x}})
		case 1:
			x = op(dsl.EAdd, x, levels(40, dsl.ENeg))
		}
		y := twin(x)
		depth := dsl.Depth(y)
		one, e := dsl.FormatExpr(y)
		other, too := dsl.FormatExpr(y)
		if !same(x, y) || !untouched(y) || one != other || e != too || depth != dsl.Depth(x) {
			t.Fatalf("%s: %s", show(x), show(y))
		}
		was := strings.Clone(one)
		for _, part := range texts(y) {
			if part != "" && shares(one, unsafe.Slice(unsafe.StringData(part), len(part))) {
				t.Errorf("%s: the same memory", show(x))
			}
		}
		if spoil(y); one != was {
			t.Errorf("%s: %s, not %s", show(x), one, was)
		}
	}
	for _, x := range []dsl.Expr{name(letters(30)), str(letters(30)), known(letters(30))} {
		s, b := held(x.S)
		x.S = s
		was := strings.Clone(text(t, x))
		one := text(t, x)
		b[0] = 'z'
		if shares(one, b) || one != was {
			t.Errorf("%s, not %s", one, was)
		}
	}
}

// TestP9_5Format prints theories that are as they were, their spare room too, and spoils them: no text hangs on them.
func TestP9_5Format(t *testing.T) {
	r := rand.New(rand.NewPCG(509, 9))
	for i := range 1000 {
		x := anyTheory(r)
		if i%10 == 0 {
			x.Rules = append(x.Rules, dsl.Rule{Name: "r", Target: "p", If: levels(3, dsl.EAdd), Then: op(dsl.EAdd, num(-1))})
		}
		y := twinTheory(x)
		one, e := dsl.Format(y)
		other, too := dsl.Format(y)
		if !sameTheory(x, y) || !untouchedTheory(y) || one != other || e != too {
			t.Fatalf("%s: %s", show(x), show(y))
		}
		was := strings.Clone(one)
		if spoilTheory(y); one != was {
			t.Errorf("%s: %s, not %s", show(x), one, was)
		}
	}
}

// TestP9_5Alike asks again and again, with other calls between: what is answered hangs on what is handed in alone.
func TestP9_5Alike(t *testing.T) {
	r := rand.New(rand.NewPCG(5, 99))
	var asked []string
	for range 200 {
		asked = append(asked, joined(r, theoryPieces(r, anyTheory(r))), joined(r, pieces(r, anyExpr(r, 4))), pick(r, "$", "input", "", letters(31), strings.Repeat("-", 40)+"a"))
	}
	answer := func(s string) string {
		x, line, e := dsl.Parse(s)
		y, f := dsl.ParseExpr(s)
		a, g := dsl.Format(x)
		b, h := dsl.FormatExpr(y)
		return show([]any{x, line, e, y, f, a, g, b, h})
	}
	var first []string
	for _, s := range asked {
		first = append(first, answer(s))
	}
	for _, i := range r.Perm(len(asked)) {
		if again := answer(asked[i]); again != first[i] {
			t.Errorf("%s: %s, not %s", tell(asked[i]), again, first[i])
		}
	}
}
