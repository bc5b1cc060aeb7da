package vm_test

import (
	"fmt"
	"math"
	"math/rand/v2"
	"slices"
	"strconv"
	"strings"
	"testing"

	"exchequer/api"
	"exchequer/check"
	"exchequer/dsl"
	"exchequer/vm"
)

// sized is an expression of ints of so many Exprs, of few levels.
func sized(n int) dsl.Expr {
	switch {
	case n == 1:
		return dsl.Expr{Op: dsl.ENum, N: 1}
	case n%2 == 0:
		return dsl.Expr{Op: dsl.ENeg, Args: []dsl.Expr{sized(n - 1)}}
	}
	return dsl.Expr{Op: dsl.ESub, Args: []dsl.Expr{sized((n - 1) / 2), sized(n - 1 - (n-1)/2)}}
}

// asking is a bool's expression of so many Exprs, 3 at least, that asks whether one is itself.
func asking(n int) dsl.Expr {
	return dsl.Expr{Op: dsl.ENe, Args: []dsl.Expr{sized(1), {Op: dsl.EMul, Args: []dsl.Expr{sized(n - 4), {Op: dsl.ENum}}}}}
}

// ruled is a theory of an output p and of rules for it, whose names and ranks are given here.
func ruled(l ...dsl.Rule) dsl.Theory {
	for i := range l {
		l[i].Name, l[i].Rank, l[i].Target = "r"+strconv.Itoa(i), i, "p"
	}
	return dsl.Theory{Decls: []dsl.Decl{{Name: "p", Type: dsl.TInt, Output: true}}, Rules: l}
}

// exprs is how many Exprs a theory's rules have.
func exprs(x dsl.Theory) int {
	n := 0
	for _, r := range x.Rules {
		if r.If.Op != 0 {
			n += number(r.If)
		}
		n += number(r.Then)
	}
	return n
}

// TestP11_1Check refuses what chapter 10 refuses, with its item and its error.
func TestP11_1Check(t *testing.T) {
	for s, want := range map[string]struct {
		item int
		e    api.Errno
	}{
		"rule u 1 : then p = 1 ;":              {6, api.ErrRank},
		`rule u 5 : if v = "y" then p = 1 ;`:   {0, api.ErrCycle},
		"rule u 5 : then q = 1 ;":              {6, api.ErrType},
		`rule u 5 : then p = "x" ;`:            {6, api.ErrType},
		"rule u 5 : then p = z ;":              {6, api.ErrUnknown},
		"rule r 5 : then p = 1 ;":              {6, api.ErrTwice},
		"output q : int ;":                     {4, api.ErrTwice},
		"rule u 5 : if q then p = 1 ;":         {6, api.ErrType},
		"rule u 5 : if known q then p = u ;":   {6, api.ErrUnknown},
		"rule u 5 : then p = p ;":              {0, api.ErrCycle},
		"rule u 5 : if false then p = p + 1 ;": {0, api.ErrCycle},
		"rule u 1 : if false then p = 1 ;":     {6, api.ErrRank},
	} {
		refused(t, theory(t, sample+s), want.item, want.e)
	}
	good := ruled(dsl.Rule{Then: sized(1)})
	for _, change := range []struct {
		to   func(x *dsl.Theory)
		item int
		e    api.Errno
	}{
		{func(x *dsl.Theory) { x.Decls = make([]dsl.Decl, 101) }, 0, api.ErrMany},
		{func(x *dsl.Theory) { x.Rules = make([]dsl.Rule, 100) }, 0, api.ErrMany},
		{func(x *dsl.Theory) { x.Decls[0].Name = "If" }, 1, api.ErrForm},
		{func(x *dsl.Theory) { x.Decls[0].Type = 4 }, 1, api.ErrForm},
		{func(x *dsl.Theory) { x.Rules[0].Rank = -1 }, 2, api.ErrForm},
		{func(x *dsl.Theory) { x.Rules[0].If.N = 1 }, 2, api.ErrForm},
		{func(x *dsl.Theory) { x.Rules[0].Then = dsl.Expr{} }, 2, api.ErrForm},
		{func(x *dsl.Theory) { x.Rules[0].Then.Op = math.MinInt }, 2, api.ErrForm},
		{func(x *dsl.Theory) { x.Rules[0].Then.Op = -1 }, 2, api.ErrForm},
		{func(x *dsl.Theory) { x.Rules[0].Then.Op = 21 }, 2, api.ErrForm},
		{func(x *dsl.Theory) { x.Rules[0].Then.Op = dsl.EAnd }, 2, api.ErrForm},
		{func(x *dsl.Theory) { x.Rules[0].If.Op = dsl.ENot }, 2, api.ErrForm},
		{func(x *dsl.Theory) { x.Rules[0].Then = doubled(32, sized(1)) }, 2, api.ErrDeep},
	} {
		x := dsl.Theory{Decls: slices.Clone(good.Decls), Rules: slices.Clone(good.Rules)}
		change.to(&x)
		refused(t, x, change.item, change.e)
	}
}

// TestP11_1CheckAny spoils theories that are taken and holds the fault against check's.
func TestP11_1CheckAny(t *testing.T) {
	r := rand.New(rand.NewPCG(11, 1))
	faults := map[api.Errno]int{}
	for range 5000 {
		x := anyTheory(r)
		if len(x.Rules) > 0 {
			y := &x.Rules[r.IntN(len(x.Rules))]
			switch r.IntN(6) {
			case 0:
				y.Name = pick(r, "if", x.Rules[0].Name)
			case 1:
				y.Target = pick(r, x.Decls...).Name
			case 2:
				y.If = pick(r, x.Rules...).Then
			case 3:
				y.Then = pick(r, x.Rules...).Then
			case 4:
				y.Rank = pick(r, x.Rules...).Rank
			case 5:
				y.Then = dsl.Expr{Op: dsl.EName, S: pick(r, "nobody", y.Target)}
			}
		}
		_, item, e := check.Check(x)
		faults[e]++
		if e != api.OK {
			refused(t, x, item, e)
			continue
		}
		program(t, x)
	}
	for _, e := range []api.Errno{api.OK, api.ErrForm, api.ErrTwice, api.ErrUnknown, api.ErrType, api.ErrRank, api.ErrCycle} {
		if faults[e] < 20 {
			t.Errorf("%d of error %d", faults[e], e)
		}
	}
}

// TestP11_1Many compiles rules of as many Exprs as there may be, and refuses those of one more.
func TestP11_1Many(t *testing.T) {
	each := func(n, size int, rest ...dsl.Rule) []dsl.Rule {
		for range n {
			rest = append(rest, dsl.Rule{Then: sized(size)})
		}
		return rest
	}
	for i, of := range []func(more int) []dsl.Rule{
		func(more int) []dsl.Rule { return []dsl.Rule{{Then: sized(5000 + more)}} },
		func(more int) []dsl.Rule { return []dsl.Rule{{If: asking(4999 + more), Then: sized(1)}} },
		func(more int) []dsl.Rule { return []dsl.Rule{{If: asking(2500 + more), Then: sized(2500)}} },
		func(more int) []dsl.Rule { return []dsl.Rule{{If: asking(2500), Then: sized(2500 + more)}} },
		func(more int) []dsl.Rule {
			return []dsl.Rule{{If: asking(1700), Then: sized(1)}, {Then: sized(1500 + more)}, {If: asking(799), Then: sized(1000)}}
		},
		// A rule without an If has no Expr there.
		func(more int) []dsl.Rule { return each(98, 51, dsl.Rule{Then: sized(2 + more)}) },
		// What never holds counts, too.
		func(more int) []dsl.Rule {
			return []dsl.Rule{{If: dsl.Expr{Op: dsl.EBool}, Then: sized(4998 + more)}, {Then: sized(1)}}
		},
	} {
		x := ruled(of(0)...)
		if n := exprs(x); n != api.MaxCode {
			t.Fatalf("%d: it is of %d", i, n)
		}
		p := program(t, x)
		if got, _ := concluded(t, p, nil); got != modelled(x, nil) {
			t.Errorf("%d: %s, not %s", i, got, modelled(x, nil))
		}
		x = ruled(of(1)...)
		refused(t, x, 0, api.ErrMany)
		// Check's faults stand ahead.
		x.Rules[len(x.Rules)-1].Target = "z"
		refused(t, x, 1+len(x.Rules), api.ErrUnknown)
	}
}

// doubled is so many times over two of what was there.
func doubled(n int, x dsl.Expr) dsl.Expr {
	for range n {
		x = dsl.Expr{Op: dsl.EMul, Args: []dsl.Expr{x, x}}
	}
	return x
}

// TestP11_1Shared compiles and refuses expressions that stand in many places of others, also in more than could be gone over.
func TestP11_1Shared(t *testing.T) {
	runs(t, program(t, ruled(dsl.Rule{Then: doubled(11, sized(1))})), "p=1")
	refused(t, ruled(dsl.Rule{Then: doubled(12, sized(1))}), 0, api.ErrMany)
	refused(t, ruled(dsl.Rule{Then: doubled(31, sized(1))}), 0, api.ErrMany)
	half := doubled(11, sized(1))
	refused(t, ruled(dsl.Rule{Then: half}, dsl.Rule{Then: half}), 0, api.ErrMany)
	var l []dsl.Rule
	for range 99 {
		l = append(l, dsl.Rule{If: dsl.Expr{Op: dsl.EEq, Args: []dsl.Expr{doubled(30, sized(1)), doubled(30, sized(1))}}, Then: doubled(31, sized(1))})
	}
	refused(t, ruled(l...), 0, api.ErrMany)
}

// TestP11_1Len holds how many instructions there are against their bound.
func TestP11_1Len(t *testing.T) {
	bound := func(x dsl.Theory) {
		t.Helper()
		outputs := 0
		for _, d := range x.Decls {
			if d.Output {
				outputs++
			}
		}
		if n := program(t, x).Len(); n < 0 || n > 4*exprs(x)+8*(len(x.Rules)+outputs) {
			t.Errorf("%s: %d instructions", source(x), n)
		}
	}
	r := rand.New(rand.NewPCG(1, 11))
	for range 3000 {
		bound(anyTheory(r))
	}
	bound(ruled(dsl.Rule{Then: sized(5000)}))
	bound(ruled(dsl.Rule{If: asking(4000), Then: sized(1000)}))
	bound(theory(t, sample))
	bound(theory(t, "input a : int ; input b : bool ;"))
	bound(dsl.Theory{})
	if n := compiled(t, sample).Len(); n < 1 {
		t.Errorf("%d instructions", n)
	}
}

// declared are declarations as a text.
func declared(l []dsl.Decl) string {
	var b []string
	for _, d := range l {
		b = append(b, fmt.Sprintf("%s:%s:%t", d.Name, word(d.Type), d.Output))
	}
	return strings.Join(b, " ")
}

// TestP11_1Declared asks for inputs and outputs.
func TestP11_1Declared(t *testing.T) {
	for s, want := range map[string][2]string{
		sample:              {"q:int:false", "p:int:true v:text:true"},
		"":                  {"", ""},
		"input a : bool ;":  {"a:bool:false", ""},
		"output a : text ;": {"", "a:text:true"},
		"output zz : int ; input b : text ; output z : bool ; input aa : int ; input a_ : bool ; output a : text ; input a0 : int ; input ab : int ;": {"a0:int:false a_:bool:false aa:int:false ab:int:false b:text:false", "a:text:true z:bool:true zz:int:true"},
	} {
		p := compiled(t, s)
		if in, out := declared(p.Inputs()), declared(p.Outputs()); in != want[0] || out != want[1] {
			t.Errorf("%s: %s; %s", s, in, out)
		}
	}
	r := rand.New(rand.NewPCG(2, 11))
	for range 1000 {
		x := anyTheory(r)
		of := map[bool][]dsl.Decl{}
		for _, d := range x.Decls {
			of[d.Output] = append(of[d.Output], d)
		}
		p := program(t, x)
		for output, got := range map[bool][]dsl.Decl{false: p.Inputs(), true: p.Outputs()} {
			slices.SortFunc(of[output], func(a, b dsl.Decl) int { return strings.Compare(a.Name, b.Name) })
			if !slices.Equal(got, of[output]) {
				t.Errorf("%s: %v", source(x), got)
			}
		}
	}
}

// TestP11_1None asks a program that is none, which is as that of an empty theory.
func TestP11_1None(t *testing.T) {
	var none *vm.Program
	for _, p := range []*vm.Program{none, {}, compiled(t, "")} {
		if p.Len() != 0 || len(p.Inputs()) != 0 || len(p.Outputs()) != 0 {
			t.Errorf("%d, %v, %v", p.Len(), p.Inputs(), p.Outputs())
		}
		runs(t, p, "")
		fails(t, p, api.ErrUnknown, vm.Int("q", 1))
		fails(t, p, api.ErrMany, make([]vm.Fact, 101)...)
	}
}
