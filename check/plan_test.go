package check_test

import (
	"math/rand/v2"
	"slices"
	"strconv"
	"strings"
	"testing"

	"exchequer/api"
	"exchequer/check"
	"exchequer/dsl"
)

// TestP10_3Plans asks for plans of theories that are read.
func TestP10_3Plans(t *testing.T) {
	for s, want := range map[string]string{
		"": "", "input q : int ;": "", "output p : int ;": "p[]", sample: "p[0] v[1]",
		// Without rules: by their bytes.
		"output b : int ; output a : text ; output aa : bool ; output a0 : int ; output a_ : int ; output zz : int ; output z : int ;": "a[] a0[] a_[] aa[] b[] z[] zz[]",
		// Ranks that fall, rise, and stand in any order.
		"output p : int ; rule r 3 : then p = 1 ; rule s 2 : then p = 2 ; rule u 1 : then p = 3 ;":                                                                                                                  "p[0 1 2]",
		"output p : int ; rule r 1 : then p = 1 ; rule s 2 : then p = 2 ; rule u 3 : then p = 3 ;":                                                                                                                  "p[2 1 0]",
		"output p : int ; rule r 2 : then p = 1 ; rule s 0 : then p = 2 ; rule u 4611686018427387904 : then p = 3 ; rule w 1 : then p = 4 ; rule x 10 : then p = 5 ;":                                               "p[2 4 0 3 1]",
		"output b : int ; output a : int ; rule r 1 : then b = 1 ; rule s 1 : then a = 2 ; rule u 2 : then b = 3 ; rule w 2 : then a = 4 ; rule x 0 : then b = 0 ; output c : bool ; rule y 0 : then c = known a ;": "a[3 1] b[2 0 4] c[5]",
		// One hangs on another by If, by Then, by known, on several, on what has no rule, by a rule that is not the highest.
		"output a : int ; output b : bool ; rule r 1 : if b then a = 1 ;":                                                                             "b[] a[0]",
		"output a : int ; output b : int ; rule r 1 : then a = b ;":                                                                                   "b[] a[0]",
		"output a : bool ; output b : int ; rule r 1 : then a = not known b ;":                                                                        "b[] a[0]",
		"output a : int ; output b : int ; rule r 1 : if known b then a = 1 ;":                                                                        "b[] a[0]",
		"output a : int ; output b : int ; rule r 1 : then a = 1 + 2 * -b ;":                                                                          "b[] a[0]",
		"output a : int ; output b : int ; output c : int ; rule r 1 : if b < c then a = 1 ;":                                                         "b[] c[] a[0]",
		"output a : int ; output b : int ; output c : int ; rule r 7 : then a = 1 ; rule s 0 : then a = c ;":                                          "b[] c[] a[0 1]",
		"output a : int ; output b : int ; output c : int ; rule r 1 : then a = c ; rule s 1 : then c = b ;":                                          "b[] c[1] a[0]",
		"output a : int ; output b : int ; output c : int ; rule r 1 : then b = c ; rule s 1 : then c = 1 ;":                                          "a[] c[1] b[0]",
		"output a : int ; output c : int ; output b : int ; output d : int ; rule r 1 : then a = d ; rule s 1 : then c = a ;":                         "b[] d[] a[0] c[1]",
		"output d : int ; output c : int ; output b : int ; output a : int ; rule r 1 : then a = b ; rule s 1 : then b = c ; rule u 1 : then c = d ;": "d[] c[2] b[1] a[0]",
		// An input is no output, also where it has an output's place.
		"input a : int ; output b : int ; input c : int ; rule r 1 : if known a and a = c then b = a + c ;": "b[0]",
		// A rule stands ahead of what it hangs on.
		"rule s 1 : if known p then v = \"x\" ; rule r 1 : then p = q ; output v : text ; output p : int ; input q : int ;": "p[1] v[0]",
	} {
		plans(t, theory(t, s), want)
	}
}

// TestP10_3Cycle refuses theories of which an output hangs on itself, at once or by way of others.
func TestP10_3Cycle(t *testing.T) {
	const front = "input q : int ; output a : int ; output b : int ; output c : int ; output d : bool ; "
	for _, s := range []string{
		"rule r 1 : then a = a ;", "rule r 1 : then a = 1 + 2 * -a ;", "rule r 1 : if a = 1 then a = 1 ;", "rule r 1 : if known a then a = 1 ;", "rule r 1 : if not known a then a = 1 ;", "rule r 1 : then d = known d ;", "rule r 1 : if false and known a then a = q ;", "rule r 2 : then a = q ; rule s 1 : then a = a ;", "rule r 1 : if q > 1 and a > 2 then a = q ;",
		"rule r 1 : then a = b ; rule s 1 : then b = a ;", "rule r 1 : if known b then a = 1 ; rule s 1 : if known a then b = 1 ;", "rule r 1 : if d then a = 1 ; rule s 1 : then d = a = 1 ;", "rule r 1 : then c = b ; rule s 1 : then b = c ;",
		"rule r 1 : then a = b ; rule s 1 : then b = c ; rule u 1 : then c = a ;", "rule r 1 : then a = b ; rule s 1 : if known c then b = 1 ; rule u 1 : if d then c = 1 ; rule w 1 : then d = known a ;", "rule r 1 : then a = b ; rule s 2 : then b = 1 ; rule u 1 : then b = c ; rule w 7 : then c = 0 ; rule x 3 : if known a then c = 1 ;",
		"rule r 1 : then a = b ; rule s 1 : then b = c ; rule u 1 : then c = c ;", "rule r 1 : then c = 1 ; rule s 1 : then b = b ;",
	} {
		x := theory(t, front+s)
		refused(t, x, 0, api.ErrCycle)
		// Each other fault is told ahead of it.
		refused(t, theory(t, front+s+"rule y 1 : then q = 1 ;"), 5+len(x.Rules)+1, api.ErrType)
		refused(t, theory(t, front+s+"input q : int ;"), 6, api.ErrTwice)
		refused(t, theory(t, front+s+"rule y 99 : then c = 1 ; rule z 99 : then c = q ;"), 5+len(x.Rules)+2, api.ErrRank)
	}
	for _, s := range []string{"rule r 1 : then a = b ; rule s 1 : then c = b ; rule u 2 : then a = c ;", "rule r 1 : if known q then a = q ;", "rule a 1 : then a = b ;", "rule b 1 : then a = b ; rule a 1 : then b = c ;", "rule r 1 : then d = a = b or a = c or b = c ; rule s 1 : then c = a + b ; rule u 1 : then b = a ;", `rule r 1 : if "a" = "b" then a = 1 ;`} {
		planned(t, theory(t, front+s))
	}
}

// TestP10_3Long plans rows of outputs each of which hangs on the next one, and closes them to circles.
func TestP10_3Long(t *testing.T) {
	for _, n := range []int{1, 2, 3, 10, 49, 50} {
		x, want := dsl.Theory{}, ""
		at := func(i int) string { return "o" + strconv.Itoa(i+10) }
		for i := range n {
			x.Decls = append(x.Decls, dsl.Decl{Name: at(i), Type: dsl.TBool, Output: true})
			x.Rules = append(x.Rules, dsl.Rule{Name: "r" + strconv.Itoa(i), Target: at(i), If: truth(1), Then: known(at(i + 1))})
			want = at(i) + "[" + strconv.Itoa(i) + "] " + want
		}
		x.Rules[n-1].Then = truth(0)
		plans(t, x, strings.TrimSpace(want))
		for i := range n {
			y := dsl.Theory{Decls: x.Decls, Rules: slices.Clone(x.Rules)}
			y.Rules[n-1].Then = known(at(i))
			refused(t, y, 0, api.ErrCycle)
			y.Rules[n-1].Then, y.Rules[n-1].If = truth(1), op(dsl.EOr, truth(1), known(at(i)))
			refused(t, y, 0, api.ErrCycle)
		}
	}
}

// TestP10_3Shared plans theories of expressions that stand in more places of others than could be gone over one by one.
func TestP10_3Shared(t *testing.T) {
	x := ruled(dsl.Rule{Name: "s", Target: "v", If: doubled(30, dsl.EAnd, op(dsl.ELt, name("p"), num(1))), Then: name("w")})
	x.Decls = append(x.Decls, decls("w:3!")...)
	plans(t, x, "p[0] w[] v[1]")
	x.Rules[0].Then = doubled(31, dsl.EAdd, name("q"))
	plans(t, x, "p[0] w[] v[1]")
	x.Rules[0].Then = doubled(31, dsl.EAdd, name("p"))
	refused(t, x, 0, api.ErrCycle)
	x.Rules[0].Then = doubled(32, dsl.EAdd, name("q"))
	refused(t, x, 5, api.ErrDeep)
}

// hanging tells of each output on which others it hangs, by all ways from one to the next.
func hanging(t dsl.Theory) map[string]map[string]bool {
	hangs := map[string]map[string]bool{}
	for _, d := range t.Decls {
		if d.Output {
			hangs[d.Name] = map[string]bool{}
		}
	}
	for _, r := range t.Rules {
		for _, s := range append(namesOf(r.If), namesOf(r.Then)...) {
			if hangs[s] != nil {
				hangs[r.Target][s] = true
			}
		}
	}
	for by := range hangs {
		for from := range hangs {
			for to := range hangs {
				if hangs[from][by] && hangs[by][to] {
					hangs[from][to] = true
				}
			}
		}
	}
	return hangs
}

// search is a theory's plan by the chapter's words: again and again the least output of those that hang on nothing that isn't there yet, and its rules from the highest possible Rank down; false if an output hangs on itself.
func search(t dsl.Theory) (check.Plan, bool) {
	var p check.Plan
	hangs := hanging(t)
	for s := range hangs {
		if hangs[s][s] {
			return check.Plan{}, false
		}
	}
	for len(p.Order) < len(hangs) {
		least := ""
		for s, on := range hangs {
			ready := !slices.Contains(p.Order, s)
			for other := range on {
				ready = ready && slices.Contains(p.Order, other)
			}
			if ready && (least == "" || s < least) {
				least = s
			}
		}
		p.Order = append(p.Order, least)
		p.Rules = append(p.Rules, falling(t.Rules, least))
	}
	return p, true
}

// falling are the numbers of an output's rules, each found as the highest one below the one ahead.
func falling(rules []dsl.Rule, target string) []int {
	var l []int
	below := api.MaxUnits + 1
	for {
		at := -1
		for i, r := range rules {
			if r.Target == target && r.Rank < below && (at < 0 || r.Rank > rules[at].Rank) {
				at = i
			}
		}
		if at < 0 {
			return l
		}
		l, below = append(l, at), rules[at].Rank
	}
}

// TestP10_3Any holds plans of many theories against a plain search.
func TestP10_3Any(t *testing.T) {
	r := rand.New(rand.NewPCG(10, 3))
	var taken, circles, unsorted int
	for range 20000 {
		x := anyTheory(r)
		want, is := search(x)
		if !is {
			circles++
			refused(t, x, 0, api.ErrCycle)
			continue
		}
		taken++
		if !slices.IsSorted(want.Order) {
			unsorted++
		}
		plans(t, x, told(want))
	}
	if taken < 5000 || circles < 500 || unsorted < 1000 {
		t.Errorf("%d plans, %d of them not by names alone; %d circles", taken, unsorted, circles)
	}
}
