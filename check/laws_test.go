package check_test

import (
	"fmt"
	"math/rand/v2"
	"slices"
	"strings"
	"testing"

	"exchequer/api"
	"exchequer/check"
	"exchequer/dsl"
)

// byName is a plan as a text, with the rules' names in place of their numbers.
func byName(x dsl.Theory, p check.Plan) string {
	var l []string
	for i, s := range p.Order {
		l = append(l, s)
		for _, at := range p.Rules[i] {
			l = append(l, x.Rules[at].Name)
		}
		l = append(l, ";")
	}
	return strings.Join(l, " ")
}

// permutations are all orders of so many things.
func permutations(n int) [][]int {
	if n == 0 {
		return [][]int{{}}
	}
	var l [][]int
	for _, row := range permutations(n - 1) {
		for at := range n {
			l = append(l, slices.Insert(slices.Clone(row), at, n-1))
		}
	}
	return l
}

// TestP10_5All plans theories with their declarations and rules in all orders: the plan is the same but for the numbers.
func TestP10_5All(t *testing.T) {
	for _, s := range []string{
		sample, sample + "rule u 5 : then p = 1 ; output a : bool ;", "output b : int ; output a : int ; output c : bool ; rule x 1 : if c then a = 1 ; rule y 2 : then a = b ; rule z 0 : then c = b = b ; rule w 0 : then a = 3 ; input q : int ;", "output a : int ; output a0 : int ; output a_ : int ; output aa : int ; rule a 3 : then aa = a_ ; rule b 2 : then a_ = a0 ; rule c 1 : then aa = a ;", "output a : int ; output b : int ; input c : int ; rule r 1 : then a = b ; rule s 1 : then b = a ; rule u 7 : then b = c ;",
	} {
		x := theory(t, s)
		p, item, e := check.Check(x)
		want := byName(x, p)
		for _, decls := range permutations(len(x.Decls)) {
			for _, rules := range permutations(len(x.Rules)) {
				var y dsl.Theory
				for _, i := range decls {
					y.Decls = append(y.Decls, x.Decls[i])
				}
				for _, i := range rules {
					y.Rules = append(y.Rules, x.Rules[i])
				}
				if q, at, bad := check.Check(y); byName(y, q) != want || at != item || bad != e {
					t.Errorf("%s: %s, %d, %d, not %s, %d, %d", tell(y), byName(y, q), at, bad, want, item, e)
				}
			}
		}
	}
}

// TestP10_5Any plans many theories, each in several orders, with other names of rules, too.
func TestP10_5Any(t *testing.T) {
	r := rand.New(rand.NewPCG(10, 5))
	for range 5000 {
		x := anyTheory(r)
		p, item, e := check.Check(x)
		for range 4 {
			y := shuffled(r, x)
			if q, at, bad := check.Check(y); byName(y, q) != byName(x, p) || at != item || bad != e {
				t.Errorf("%s: %s, %d, %d, not %s, %d, %d", tell(y), byName(y, q), at, bad, byName(x, p), item, e)
			}
		}
		for i := range x.Rules {
			x.Rules[i].Name = fmt.Sprintf("%c%d", 'a'+r.IntN(26), i)
		}
		if q, at, bad := check.Check(x); told(q) != told(p) || at != item || bad != e {
			t.Errorf("%s: %s, %d, %d, not %s, %d, %d", tell(x), told(q), at, bad, told(p), item, e)
		}
	}
}

// TestP10_5Without takes away rules of theories that are taken, each one alone and one behind the other: they stay so.
func TestP10_5Without(t *testing.T) {
	r := rand.New(rand.NewPCG(105, 10))
	taken := 0
	for range 5000 {
		x := anyTheory(r)
		if _, _, e := check.Check(x); e != api.OK {
			continue
		}
		taken++
		for i := range x.Rules {
			y := dsl.Theory{Decls: x.Decls, Rules: slices.Delete(slices.Clone(x.Rules), i, i+1)}
			want, _ := search(y)
			plans(t, y, told(want))
		}
		for len(x.Rules) > 0 {
			i := r.IntN(len(x.Rules))
			x.Rules = slices.Delete(slices.Clone(x.Rules), i, i+1)
			planned(t, x)
		}
	}
	if taken < 1000 {
		t.Errorf("only %d were taken", taken)
	}
	whole := theory(t, sample+"rule u 5 : then p = 1 ; rule w 0 : if q = 1 and known p then v = \"\" ;")
	plans(t, whole, "p[2 0] v[1 3]")
	for i, want := range []string{"p[1] v[0 2]", "p[1 0] v[2]", "p[0] v[1 2]", "p[2 0] v[1]"} {
		plans(t, dsl.Theory{Decls: whole.Decls, Rules: slices.Delete(slices.Clone(whole.Rules), i, i+1)}, want)
	}
}
