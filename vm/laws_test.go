package vm_test

import (
	"math/rand/v2"
	"slices"
	"strconv"
	"testing"

	"exchequer/api"
	"exchequer/dsl"
	"exchequer/vm"
)

// permutations are all orders of so many things.
func permutations(n int) [][]int {
	if n == 0 {
		return [][]int{{}}
	}
	var l [][]int
	for _, row := range permutations(n - 1) {
		for at := range n {
			l = append(l, slices.Insert(slices.Clone(row), at, n-1))
		}
	}
	return l
}

// ordered are things in another order.
func ordered[T any](l []T, order []int) []T {
	var other []T
	for _, i := range order {
		other = append(other, l[i])
	}
	return other
}

// answer is all that a run tells, and how many instructions there are.
func answer(t *testing.T, p *vm.Program, facts []vm.Fact) string {
	t.Helper()
	s, done := concluded(t, p, facts)
	return s + " by " + strconv.Itoa(done) + " of " + strconv.Itoa(p.Len())
}

// TestP11_4All runs theories with their declarations, rules and facts in all orders.
func TestP11_4All(t *testing.T) {
	for s, facts := range map[string][]vm.Fact{
		sample: {vm.Int("q", 5)},
		"input a : int ; input b : bool ; output o : int ; output u : int ; rule r 3 : if b then o = u ; rule s 2 : then o = a ; rule t 1 : then o = 1 / 0 ; rule v 1 : then u = a * a ;": {vm.Int("a", 3), vm.Bool("b", true)},
		"input a : int ; input b : text ; input c : bool ; output o : int ; rule r 3 : if c then o = 3 ; rule s 2 : if a > 3 then o = 2 ; rule t 1 : then o = 1 ;":                        {vm.Int("a", 4), vm.Text("b", "x"), vm.Bool("c", false)},
		"input a : int ; output o : int ; output u : int ; output y : int ; rule r 1 : then o = a / 0 ; rule s 1 : then u = a * a ; rule t 1 : then y = 1 % 0 ;":                          {vm.Int("a", api.MaxUnits)},
	} {
		x := theory(t, s)
		want := answer(t, program(t, x), facts)
		for _, decls := range permutations(len(x.Decls)) {
			for _, rules := range permutations(len(x.Rules)) {
				p := program(t, dsl.Theory{Decls: ordered(x.Decls, decls), Rules: ordered(x.Rules, rules)})
				for _, order := range permutations(len(facts)) {
					if got := answer(t, p, ordered(facts, order)); got != want {
						t.Errorf("%s: %s, not %s", s, got, want)
					}
				}
			}
		}
	}
}

// TestP11_4Any runs many theories, each in several orders, with other names of rules, too.
func TestP11_4Any(t *testing.T) {
	r := rand.New(rand.NewPCG(11, 4))
	for range 4000 {
		x := anyTheory(r)
		facts := anyFacts(r, x, false)
		want := answer(t, program(t, x), facts)
		for range 3 {
			y := shuffled(r, x)
			for i, at := range r.Perm(len(y.Rules)) {
				y.Rules[i].Name = "n" + strconv.Itoa(at)
			}
			r.Shuffle(len(facts), func(i, j int) { facts[i], facts[j] = facts[j], facts[i] })
			if got := answer(t, program(t, y), facts); got != want {
				t.Errorf("%s%s: %s, not %s", source(y), told(facts), got, want)
			}
		}
	}
}

// settled: is each output's value the one that the chapter's words give it, over these values of all of them?
func (w world) settled(x dsl.Theory, outputs []string) bool {
	return !slices.ContainsFunc(outputs, func(name string) bool { return w[name] != w.concludes(x.Rules, name) })
}

// truths is a theory of bools alone, three of them outputs, whose rules may ask for those declared ahead.
func truths(t *testing.T, r *rand.Rand) dsl.Theory {
	x := theory(t, "input a : bool ; input b : bool ; output o : bool ; output u : bool ; output y : bool ;")
	for i := range 2 + r.IntN(7) {
		at := 2 + r.IntN(3)
		rule := "rule r" + strconv.Itoa(i) + " " + strconv.Itoa(i) + " : if " + anyTruth(r, 3, x.Decls[:at]) + " then " + x.Decls[at].Name + " = " + anyTruth(r, 2, x.Decls[:at]) + " ;"
		x.Rules = append(x.Rules, theory(t, rule).Rules...)
	}
	return x
}

// anyTruth is the text of an expression of bools alone, which meets no error.
func anyTruth(r *rand.Rand, depth int, l []dsl.Decl) string {
	if depth <= 1 {
		name := pick(r, l...).Name
		return pick(r, "true", "false", "known "+name, name, name, name)
	}
	within := func() string { return anyTruth(r, depth-1, l) }
	if r.IntN(4) == 0 {
		return "(not " + within() + ")"
	}
	return "(" + within() + pick(r, " and ", " or ", " = ", " != ") + within() + ")"
}

// TestP11_4One tries all values of a theory's outputs: one set of them alone is settled, and it is what Run concludes.
func TestP11_4One(t *testing.T) {
	r := rand.New(rand.NewPCG(4, 11))
	outputs := []string{"o", "u", "y"}
	seen := map[string]int{}
	for range 4000 {
		x := truths(t, r)
		facts := anyFacts(r, x, false)
		var found []string
		for n := range 27 {
			w, _ := takes(x, facts)
			for _, name := range outputs {
				if n%3 > 0 {
					w[name] = n%3 == 1
				}
				n /= 3
			}
			if w.settled(x, outputs) {
				found = append(found, told(w.outputs(x)))
			}
		}
		got, _ := concluded(t, program(t, x), facts)
		if len(found) != 1 || found[0] != got {
			t.Errorf("%s%s: %s, not %q", source(x), told(facts), got, found)
		}
		seen[got]++
	}
	if len(seen) != 27 {
		t.Errorf("%v", seen)
	}
}

// TestP11_4Extension holds what Run concludes to be settled, over many theories.
func TestP11_4Extension(t *testing.T) {
	r := rand.New(rand.NewPCG(44, 11))
	whole := 0
	for range 5000 {
		x := anyTheory(r)
		p, facts := program(t, x), anyFacts(r, x, false)
		l, _, e := p.Run(facts)
		if e != api.OK {
			continue
		}
		whole++
		w, _ := takes(x, facts)
		var outputs []string
		for _, d := range p.Outputs() {
			outputs = append(outputs, d.Name)
		}
		for _, f := range l {
			w[f.Name] = map[int]any{dsl.TInt: f.N, dsl.TBool: f.N == 1, dsl.TText: f.S}[f.Type]
		}
		if !w.settled(x, outputs) {
			t.Errorf("%s%s: %s", source(x), told(facts), told(l))
		}
	}
	if whole < 1000 {
		t.Errorf("%d", whole)
	}
}

// TestP11_5Bounded holds how many instructions are done against how many there are, whatever is concluded of whatever facts.
func TestP11_5Bounded(t *testing.T) {
	r := rand.New(rand.NewPCG(11, 5))
	few, some := 0, 0
	for range 4000 {
		x := anyTheory(r)
		p := program(t, x)
		for range 4 {
			_, done := concluded(t, p, anyFacts(r, x, true))
			if done > 0 {
				some++
			}
			if done < p.Len() {
				few++
			}
		}
	}
	if few < 1000 || some < 1000 {
		t.Errorf("%d, %d", few, some)
	}
	for s, facts := range map[string][]vm.Fact{
		sample: {vm.Int("q", 5)}, "": nil, "input q : int ;": {vm.Int("q", 5)},
		"output o : int ; rule r 1 : then o = 1 + 2 * 3 ;":                       nil,
		"output o : int ; rule r 2 : then o = 1 ; rule s 1 : then o = 2 * 3 ;":   nil,
		"input q : bool ; output o : bool ; rule r 1 : then o = q and q or q ;":  {vm.Bool("q", true)},
		"input q : bool ; output o : bool ; rule r 1 : then o = q or q and q ;":  {vm.Bool("q", true)},
		"input q : bool ; output o : bool ; rule r 1 : if q or q then o = q ;":   nil,
		"output o : int ; rule r 2 : then o = -1 ; rule s 1 : then o = --2 - 1;": nil,
	} {
		concluded(t, compiled(t, s), facts)
	}
}

// TestP11_6Fact adds inputs that no rule needs, and facts of them: nothing changes.
func TestP11_6Fact(t *testing.T) {
	r := rand.New(rand.NewPCG(11, 6))
	for range 4000 {
		x := anyTheory(r)
		facts := anyFacts(r, x, false)
		want := answer(t, program(t, x), facts)
		for _, name := range []string{"a1", "k", "zzz"} {
			kind := 1 + r.IntN(3)
			x.Decls = append(x.Decls, dsl.Decl{Name: name, Type: kind})
			p := program(t, x)
			if got := answer(t, p, facts); got != want {
				t.Errorf("%s%s: %s, not %s", source(x), told(facts), got, want)
			}
			facts = append(facts, anyFact(r, name, kind, false))
			if got := answer(t, p, facts); got != want {
				t.Errorf("%s%s: %s, not %s", source(x), told(facts), got, want)
			}
		}
	}
	p := compiled(t, "input k : int ; "+sample)
	runs(t, p, `p=10 v="x"`, vm.Int("q", 5), vm.Int("k", 7))
	runs(t, p, "", vm.Int("k", 7))
	fails(t, p, api.ErrRange, vm.Int("q", 5), vm.Int("k", api.MaxUnits+1))
}

// TestP11_6Rule adds rules whose If is false, of any Rank, with any Then: nothing changes, how many instructions there are and are done included.
func TestP11_6Rule(t *testing.T) {
	r := rand.New(rand.NewPCG(6, 11))
	for range 4000 {
		x := anyTheory(r)
		facts := anyFacts(r, x, false)
		want := answer(t, program(t, x), facts)
		for i, d := range x.Decls {
			if !d.Output {
				continue
			}
			rank := pick(r, 1000, api.MaxUnits, 100+i)
			// Of names it asks for inputs alone, as the plan's order hangs on the outputs that it needs.
			inputs := slices.DeleteFunc(slices.Clone(x.Decls), func(d dsl.Decl) bool { return d.Output })
			s := "rule never" + strconv.Itoa(i) + " " + strconv.Itoa(rank) + " : if false then " + d.Name + " = " + anyText(r, d.Type, 4, inputs) + " ;"
			x.Rules = append(x.Rules, theory(t, s).Rules...)
			if got := answer(t, program(t, x), facts); got != want {
				t.Errorf("%s%s: %s, not %s", source(x), told(facts), got, want)
			}
		}
	}
	for _, s := range []string{"p = 1 / 0", "p = 7", `v = "y"`, "p = " + most + " + 1", "v = v2"} {
		p := compiled(t, "output v2 : text ; "+sample+"rule never 100 : if false then "+s+" ;")
		runs(t, p, `p=10 v="x"`, vm.Int("q", 5))
		runs(t, p, "", vm.Int("q", 1))
		runs(t, p, "")
	}
	// What is false by its value alone changes nothing of what is concluded, either.
	for _, s := range []string{"not true", "1 = 2", "q != q", "false and 1 / 0 = 1", "known p2"} {
		p := compiled(t, "output p2 : int ; "+sample+"rule never 100 : if "+s+" then p = 1 / 0 ;")
		runs(t, p, `p=10 v="x"`, vm.Int("q", 5))
		runs(t, p, "", vm.Int("q", 1))
	}
}
