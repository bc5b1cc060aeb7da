package vm_test

import (
	"math/rand/v2"
	"strconv"
	"strings"
	"testing"

	"exchequer/api"
	"exchequer/dsl"
	"exchequer/vm"
)

// TestP11_2Examples holds the chapter's table.
func TestP11_2Examples(t *testing.T) {
	p := compiled(t, sample)
	runs(t, p, `p=10 v="x"`, vm.Int("q", 5))
	runs(t, p, "", vm.Int("q", 1))
	runs(t, p, "")
	runs(t, p, "p="+most+` v="x"`, vm.Int("q", 1<<61))
	fails(t, p, api.ErrOverflow, vm.Int("q", 1<<62))
	fails(t, p, api.ErrUnknown, vm.Int("z", 1))
	fails(t, p, api.ErrTwice, vm.Int("q", 1), vm.Int("q", 1))
	fails(t, p, api.ErrType, vm.Text("q", "x"))
	fails(t, p, api.ErrRange, vm.Int("q", 1<<63-1))
}

// front is what is declared for rules that stand alone in a test.
const front = "input a : int ; input b : bool ; output o : int ; output u : int ; output x : bool ; output y : text ; "

// TestP11_2Rules asks which rule gives an output its value.
func TestP11_2Rules(t *testing.T) {
	two, yes, no := vm.Int("a", 2), vm.Bool("b", true), vm.Bool("b", false)
	for _, c := range []struct {
		rules, want string
		facts       []vm.Fact
	}{
		{"", "", nil},
		{"", "", []vm.Fact{two, yes}},
		// Without an If; with one that is true, false, none.
		{"rule r 1 : then o = 5 ;", "o=5", nil},
		{"rule r 1 : if true then o = 5 ;", "o=5", nil},
		{"rule r 1 : if false then o = 5 ;", "", nil},
		{"rule r 1 : if b then o = 5 ;", "o=5", []vm.Fact{yes}},
		{"rule r 1 : if b then o = 5 ;", "", []vm.Fact{no}},
		{"rule r 1 : if b then o = 5 ;", "", nil},
		{"rule r 1 : if not b then o = 5 ;", "o=5", []vm.Fact{no}},
		{"rule r 1 : if not b then o = 5 ;", "", nil},
		{"rule r 1 : if not known b then o = 5 ;", "o=5", nil},
		// A Then that is none gives nothing, and the next rule is looked at.
		{"rule r 1 : then o = a ;", "", nil},
		{"rule r 1 : then o = a ;", "o=2", []vm.Fact{two}},
		{"rule r 2 : then o = a ; rule s 1 : then o = 7 ;", "o=7", nil},
		{"rule r 2 : then o = a ; rule s 1 : then o = 7 ;", "o=2", []vm.Fact{two}},
		{"rule r 2 : if b then o = a ; rule s 1 : then o = 7 ;", "o=7", []vm.Fact{yes}},
		{"rule r 2 : if b then o = a ; rule s 1 : then o = 7 ;", "o=7", []vm.Fact{two}},
		{"rule r 2 : if b then o = a ; rule s 1 : then o = 7 ;", "o=7", []vm.Fact{two, no}},
		{"rule r 2 : if b then o = a ; rule s 1 : then o = 7 ;", "o=2", []vm.Fact{two, yes}},
		// The highest Rank that applies, wherever it stands.
		{"rule r 1 : then o = 1 ; rule s 3 : then o = 3 ; rule t 2 : then o = 2 ;", "o=3", nil},
		{"rule r 3 : then o = 3 ; rule s 1 : then o = 1 ; rule t 2 : then o = 2 ;", "o=3", nil},
		{"rule r 0 : then o = 0 ; rule s " + most + " : then o = 3 ; rule t 10 : then o = 2 ; rule u 9 : then o = 1 ;", "o=3", nil},
		{"rule r 0 : then o = 0 ; rule s " + most + " : if b then o = 3 ; rule t 10 : then o = 2 ; rule u 9 : then o = 1 ;", "o=2", nil},
		{"rule r 4 : if b then o = 4 ; rule s 3 : then o = a ; rule t 2 : if a = 2 then o = 2 ; rule u 1 : then o = 1 ;", "o=1", nil},
		{"rule r 4 : if b then o = 4 ; rule s 3 : then o = a + 1 ; rule t 2 : if a = 2 then o = 2 ; rule u 1 : then o = 1 ;", "o=3", []vm.Fact{two}},
		// Outputs of other outputs, in whatever order they stand; of such as have no value.
		{"rule r 1 : then o = u ; rule s 1 : then u = a * 2 ;", "o=4 u=4", []vm.Fact{two}},
		{"rule r 1 : then o = u ; rule s 1 : then u = a * 2 ;", "", nil},
		{"rule r 1 : then u = o ; rule s 1 : then o = a * 2 ;", "o=4 u=4", []vm.Fact{two}},
		{`rule r 1 : then y = "k" ; rule s 1 : then x = y = "k" ; rule t 1 : if x then o = 1 ; rule v 1 : then u = o + 1 ;`, `o=1 u=2 x=true y="k"`, nil},
		{"rule r 1 : if known u then o = 1 ; rule s 0 : if not known u then o = 2 ;", "o=2", nil},
		{"rule r 1 : if known u then o = 1 ; rule s 0 : if not known u then o = 2 ; rule t 1 : then u = a ;", "o=2", nil},
		{"rule r 1 : if known u then o = 1 ; rule s 0 : if not known u then o = 2 ; rule t 1 : then u = a ;", "o=1 u=2", []vm.Fact{two}},
		{"rule r 1 : then x = known u or known a ; rule s 1 : then u = a / 3 ;", "u=0 x=true", []vm.Fact{two}},
		{"rule r 1 : then x = known u ; rule s 1 : then u = o ;", "x=false", nil},
		// A value that is false, 0 or empty is one.
		{`rule r 9 : then o = 0 ; rule s 9 : then x = false ; rule t 9 : then y = "" ; rule v 1 : then o = 1 ; rule w 1 : then x = true ; rule z 1 : then y = "k" ; rule k 1 : if known o and known x and known y then u = 3 ;`, `o=0 u=3 x=false y=""`, nil},
	} {
		runs(t, compiled(t, front+c.rules), c.want, c.facts...)
	}
}

// TestP11_2Errors asks which error a run meets first, and whether it is reached.
func TestP11_2Errors(t *testing.T) {
	const over, zero = "(" + most + " + 1)", "(1 / 0)"
	for s, want := range map[string]string{
		// By the plan's Order: by names, where none hangs on another.
		"rule r 1 : then u = " + zero + " ; rule s 1 : then o = " + over + " ;":          "error 16",
		"rule r 1 : then u = " + over + " ; rule s 1 : then o = " + zero + " ;":          "error 17",
		"rule r 1 : then u = " + over + " ; rule s 1 : then o = " + zero + " + u ;":      "error 16",
		"rule r 1 : then u = " + zero + " ; rule s 1 : if u = 1 then o = " + over + " ;": "error 17",
		// By falling Rank; behind a rule that applies nothing is looked at.
		"rule r 1 : then o = " + zero + " ; rule s 2 : then o = " + over + " ;":                "error 16",
		"rule r 2 : then o = " + zero + " ; rule s 1 : then o = " + over + " ;":                "error 17",
		"rule r 2 : if b then o = 1 ; rule s 1 : then o = " + over + " ;":                      "error 16",
		"rule r 2 : then o = a ; rule s 1 : then o = " + zero + " ;":                           "error 17",
		"rule r 2 : then o = 1 ; rule s 1 : then o = " + over + " ;":                           "o=1",
		"rule r 2 : then o = 1 ; rule s 1 : if " + zero + " = 1 then o = 2 ;":                  "o=1",
		"rule r 2 : if true then o = 1 ; rule s 1 : if " + zero + " = 1 then o = 2 ;":          "o=1",
		"rule r 2 : then o = 1 ; rule s 1 : if " + zero + " = 1 then u = 2 ;":                  "error 17",
		"rule r 2 : if a = a then o = 1 ; rule s 1 : then o = 2 ; rule t 0 : then o = 1 / 0 ;": "o=2",
		// If comes ahead of Then, which is looked at where the If is true alone.
		"rule r 1 : if " + zero + " = 1 then o = " + over + " ;":                    "error 17",
		"rule r 1 : if " + over + " = 1 then o = " + zero + " ;":                    "error 16",
		"rule r 1 : if 1 = 1 then o = " + over + " ;":                               "error 16",
		"rule r 1 : if 1 = 2 then o = " + over + " ;":                               "",
		"rule r 1 : if b then o = " + over + " ;":                                   "",
		"rule r 1 : if false then o = " + over + " ;":                               "",
		"rule r 1 : if known b and " + zero + " = 1 then o = 1 ;":                   "",
		"rule r 1 : if not known b or " + zero + " = 1 then o = 1 ;":                "o=1",
		"rule r 1 : then x = a = 1 and " + over + " = 1 ;":                          "",
		"rule r 1 : then x = " + over + " = 1 and a = 1 ;":                          "error 16",
		"rule r 1 : then o = a + " + zero + " ; rule s 2 : then o = " + over + " ;": "error 16",
	} {
		runs(t, compiled(t, front+s), want)
	}
	// Facts' errors come ahead of all.
	fails(t, compiled(t, front+"rule r 1 : then o = "+over+" ;"), api.ErrType, vm.Int("b", 1))
}

// TestP11_2Order tells outputs by the order of their bytes.
func TestP11_2Order(t *testing.T) {
	s := ""
	for i, name := range []string{"z", "aa", "a_", "a0", "zz", "b", "a", "ab", strings.Repeat("m", 30)} {
		s += "output " + name + " : int ; rule r" + strconv.Itoa(i) + " 1 : then " + name + " = " + strconv.Itoa(i) + " ; "
	}
	runs(t, compiled(t, s), "a=6 a0=3 a_=2 aa=1 ab=7 b=5 "+strings.Repeat("m", 30)+"=8 z=0 zz=4")
	// Also where others are worked out ahead.
	runs(t, compiled(t, "output a : int ; output b : int ; output c : int ; rule r 1 : then a = b + 1 ; rule s 1 : then b = c + 1 ; rule t 1 : then c = 1 ;"), "a=3 b=2 c=1")
}

// TestP11_2Long works out a row of outputs each of which hangs on the next one, and rules of one output by the dozen.
func TestP11_2Long(t *testing.T) {
	row, rules := dsl.Theory{}, "input q : int ; output p : int ; "
	want := []string{}
	for i := range 50 {
		at := "o" + strconv.Itoa(i+10)
		row.Decls = append(row.Decls, dsl.Decl{Name: at, Type: dsl.TInt, Output: true})
		row.Rules = append(row.Rules, theory(t, "rule r"+at+" 1 : then "+at+" = o"+strconv.Itoa(i+11)+" + 1 ;").Rules...)
		want = append(want, at+"="+strconv.Itoa(50-i))
	}
	row.Rules[49].Then = dsl.Expr{Op: dsl.ENum, N: 1}
	runs(t, program(t, row), strings.Join(want, " "))
	for i := range 98 {
		rules += "rule r" + strconv.Itoa(i) + " " + strconv.Itoa(i) + " : if q = " + strconv.Itoa(i) + " then p = q * 10 ; "
	}
	p := compiled(t, rules)
	for i := range 98 {
		runs(t, p, "p="+strconv.Itoa(i*10), vm.Int("q", i))
	}
	runs(t, p, "", vm.Int("q", 98))
	runs(t, p, "", vm.Int("q", -1))
	runs(t, p, "")
}

// TestP11_2Any holds runs of many theories over many facts against a plain working out by the chapter's words.
func TestP11_2Any(t *testing.T) {
	r := rand.New(rand.NewPCG(11, 2))
	count := map[string]int{}
	for range 12000 {
		x := anyTheory(r)
		p := program(t, x)
		for range 4 {
			facts := anyFacts(r, x, r.IntN(3) == 0)
			want := modelled(x, facts)
			if got, _ := concluded(t, p, facts); got != want {
				t.Fatalf("%s%s: %s, not %s", source(x), told(facts), got, want)
			}
			if !strings.HasPrefix(want, "error") {
				want = strconv.Itoa(strings.Count(want, "="))
			}
			count[want]++
		}
	}
	for _, s := range []string{"0", "1", "2", "3", failed(api.ErrOverflow), failed(api.ErrZero), failed(api.ErrUnknown), failed(api.ErrTwice), failed(api.ErrType), failed(api.ErrRange), failed(api.ErrLong)} {
		if count[s] < 100 {
			t.Errorf("%s: %d of %v", s, count[s], count)
		}
	}
}
