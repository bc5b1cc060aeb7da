package check_test

import (
	"math/rand/v2"
	"slices"
	"strings"
	"sync"
	"testing"
	"unsafe"

	"exchequer/api"
	"exchequer/check"
	"exchequer/dsl"
)

// spare is what stands in the room behind lists that are handed in.
var spare = dsl.Expr{Op: 77, S: "spare"}

// twin is an expression like another one, in other memory, with spare room behind its lists that says something.
func twin(x dsl.Expr) dsl.Expr {
	y := dsl.Expr{Op: x.Op, N: x.N, S: strings.Clone(x.S)}
	if x.Args == nil {
		return y
	}
	for _, arg := range x.Args {
		y.Args = append(y.Args, twin(arg))
	}
	y.Args = append(y.Args, spare)[:len(x.Args)]
	return y
}

// twinDecls are declarations like others, in other memory, with spare room behind that says something.
func twinDecls(l []dsl.Decl) []dsl.Decl {
	var other []dsl.Decl
	for _, d := range l {
		d.Name = strings.Clone(d.Name)
		other = append(other, d)
	}
	return append(other, dsl.Decl{Name: "spare"})[:len(l)]
}

// twinTheory is a theory like another one, in other memory, with spare room behind its lists that says something.
func twinTheory(t dsl.Theory) dsl.Theory {
	u := dsl.Theory{Decls: twinDecls(t.Decls)}
	for _, r := range t.Rules {
		u.Rules = append(u.Rules, dsl.Rule{Name: strings.Clone(r.Name), Rank: r.Rank, If: twin(r.If), Target: strings.Clone(r.Target), Then: twin(r.Then)})
	}
	u.Rules = append(u.Rules, dsl.Rule{Name: "spare"})[:len(u.Rules)]
	return u
}

// untouched: is the spare room of an expression that was made by twin as it was?
func untouched(x dsl.Expr) bool {
	return x.Args == nil || same(x.Args[:len(x.Args)+1][len(x.Args)], spare) && !slices.ContainsFunc(x.Args, func(y dsl.Expr) bool { return !untouched(y) })
}

// untouchedTheory: is the spare room of a theory that was made by twinTheory as it was?
func untouchedTheory(t dsl.Theory) bool {
	if t.Decls[:len(t.Decls)+1][len(t.Decls)].Name != "spare" || t.Rules[:len(t.Rules)+1][len(t.Rules)].Name != "spare" {
		return false
	}
	return !slices.ContainsFunc(t.Rules, func(r dsl.Rule) bool { return !untouched(r.If) || !untouched(r.Then) })
}

// spoilText writes to a text that was made by strings.Clone, or to one that should be new.
func spoilText(s string) {
	for i := range len(s) {
		unsafe.Slice(unsafe.StringData(s), len(s))[i] ^= 0x15
	}
}

// spoil writes to all memory of an expression that was made by twin.
func spoil(x dsl.Expr) {
	spoilText(x.S)
	for i := range x.Args {
		spoil(x.Args[i])
		x.Args[i] = spare
	}
}

// spoilTheory writes to all memory of a theory that was made by twinTheory.
func spoilTheory(t dsl.Theory) {
	for i, d := range t.Decls {
		spoilText(d.Name)
		t.Decls[i] = dsl.Decl{Name: "spoilt"}
	}
	for i, r := range t.Rules {
		spoil(r.If)
		spoil(r.Then)
		spoilText(r.Name)
		spoilText(r.Target)
		t.Rules[i] = dsl.Rule{Name: "spoilt", Rank: -1}
	}
}

// copied is a plan in memory of its own.
func copied(p check.Plan) check.Plan {
	var q check.Plan
	for i, s := range p.Order {
		q.Order = append(q.Order, strings.Clone(s))
		q.Rules = append(q.Rules, slices.Clone(p.Rules[i]))
	}
	return q
}

// TestP10_4Check checks theories, which are as they were then, and spoils them: no plan hangs on them.
func TestP10_4Check(t *testing.T) {
	r := rand.New(rand.NewPCG(10, 4))
	for i := range 3000 {
		x := anyTheory(r)
		switch i % 10 {
		case 0:
			x.Rules = append(x.Rules, dsl.Rule{Name: "if", Target: "p", If: negated(3, name("a")), Then: op(dsl.EAdd, num(-1))})
		case 1:
			x.Decls = append(x.Decls, dsl.Decl{Name: "if"})
		}
		y := twinTheory(x)
		one, item, e := check.Check(y)
		other, at, bad := check.Check(y)
		if !sameTheory(x, y) || !untouchedTheory(y) || told(one) != told(other) || item != at || e != bad {
			t.Fatalf("%s: %s", tell(x), tell(y))
		}
		was := copied(one)
		if spoilTheory(y); told(one) != told(was) {
			t.Errorf("%s: %s, not %s", tell(x), told(one), told(was))
		}
		for i, s := range one.Order {
			spoilText(s)
			one.Order[i] = "spoilt"
			clear(one.Rules[i][:cap(one.Rules[i])])
			one.Rules[i] = nil
		}
		if told(other) != told(was) {
			t.Errorf("%s: %s, not %s", tell(x), told(other), told(was))
		}
		if again, _, _ := check.Check(x); told(again) != told(was) {
			t.Errorf("%s: %s, not %s", tell(x), told(again), told(was))
		}
	}
}

// TestP10_4Lists writes behind each list of a plan: no other list changes.
func TestP10_4Lists(t *testing.T) {
	r := rand.New(rand.NewPCG(104, 10))
	for range 3000 {
		x := anyTheory(r)
		p, _, e := check.Check(x)
		if e != api.OK {
			continue
		}
		was := copied(p)
		for i := range p.Rules {
			for n := range 5 {
				_ = append(p.Rules[i], slices.Repeat([]int{99}, n)...)
			}
		}
		_, _ = append(p.Order, "z"), append(p.Rules, []int{99})
		if told(p) != told(was) {
			t.Errorf("%s: %s, not %s", tell(x), told(p), told(was))
		}
	}
}

// TestP10_4Type asks for types of expressions, which are as they were then, and the declarations, too.
func TestP10_4Type(t *testing.T) {
	r := rand.New(rand.NewPCG(1, 104))
	for range 3000 {
		l := anyTheory(r).Decls
		x := anyExpr(r, 6, l)
		y, of := twin(x), twinDecls(l)
		one, e := check.Type(y, of)
		other, bad := check.Type(y, of)
		if !same(x, y) || !untouched(y) || !slices.Equal(l, of) || of[:len(l)+1][len(l)].Name != "spare" || one != other || e != bad {
			t.Fatalf("%s: %s", tell(x), tell(y))
		}
		spoil(y)
		for i, d := range of {
			spoilText(d.Name)
			of[i] = dsl.Decl{}
		}
		typed(t, x, l, one, e)
	}
}

// TestP10_4Needs asks for names of expressions, which are as they were then, and spoils them: no list hangs on them, or on another one.
func TestP10_4Needs(t *testing.T) {
	r := rand.New(rand.NewPCG(2, 104))
	for range 3000 {
		x := anyExpr(r, 7, decls("i:1 b:2 s:3 j:1! c:2! a0:1 a_:2 z:3"))
		y := twin(x)
		one, other := check.Needs(y), check.Needs(y)
		if !same(x, y) || !untouched(y) || !slices.Equal(one, other) {
			t.Fatalf("%s: %s", tell(x), tell(y))
		}
		was := strings.Clone(strings.Join(one, " "))
		if spoil(y); strings.Join(one, " ") != was {
			t.Errorf("%s: %q, not %s", tell(x), one, was)
		}
		for i, s := range one {
			spoilText(s)
			one[i] = "spoilt"
		}
		clear(one[:cap(one)])
		if strings.Join(other, " ") != was || strings.Join(check.Needs(x), " ") != was {
			t.Errorf("%s: %q, not %s", tell(x), other, was)
		}
	}
}

// TestP10_4Alike asks again and again, with other calls between and beside: what is answered hangs on what is handed in alone.
func TestP10_4Alike(t *testing.T) {
	r := rand.New(rand.NewPCG(4, 104))
	var asked []dsl.Theory
	for range 300 {
		asked = append(asked, anyTheory(r))
	}
	answer := func(x dsl.Theory) string {
		p, item, e := check.Check(x)
		s := tell([]any{p, item, e})
		for _, rule := range x.Rules {
			kind, bad := check.Type(rule.Then, x.Decls)
			s += tell([]any{kind, bad, check.Needs(rule.If)})
		}
		return s
	}
	var first []string
	for _, x := range asked {
		first = append(first, answer(x))
	}
	var all sync.WaitGroup
	for range 4 {
		order := r.Perm(len(asked))
		all.Go(func() {
			for _, i := range order {
				if again := answer(asked[i]); again != first[i] {
					t.Errorf("%s: %s, not %s", tell(asked[i]), again, first[i])
				}
			}
		})
	}
	all.Wait()
}
