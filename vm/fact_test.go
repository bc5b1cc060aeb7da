package vm_test

import (
	"math"
	"slices"
	"strconv"
	"strings"
	"testing"

	"exchequer/api"
	"exchequer/dsl"
	"exchequer/vm"
)

// echo is a theory that tells each of its inputs again, by an output of its own.
const echo = "input i : int ; input b : bool ; input s : text ; output io : int ; output bo : bool ; output so : text ; rule i 1 : then io = i ; rule b 1 : then bo = b ; rule s 1 : then so = s ; "

// TestP11_2Fact makes facts.
func TestP11_2Fact(t *testing.T) {
	for _, n := range []int{0, 1, -1, api.MaxUnits, -api.MaxUnits, math.MaxInt, math.MinInt} {
		if got, want := vm.Int("q", n), (vm.Fact{Name: "q", Type: dsl.TInt, N: n}); got != want {
			t.Errorf("%+v, not %+v", got, want)
		}
	}
	if got, want := vm.Bool("q", true), (vm.Fact{Name: "q", Type: dsl.TBool, N: 1}); got != want {
		t.Errorf("%+v, not %+v", got, want)
	}
	if got, want := vm.Bool("q", false), (vm.Fact{Name: "q", Type: dsl.TBool}); got != want {
		t.Errorf("%+v, not %+v", got, want)
	}
	for _, s := range []string{"", "x", "\x00\xff\"", strings.Repeat("x", 201)} {
		if got, want := vm.Text(s, s), (vm.Fact{Name: s, Type: dsl.TText, S: s}); got != want {
			t.Errorf("%+v, not %+v", got, want)
		}
	}
}

// TestP11_2Edges takes facts of each type, and refuses those beyond their bounds.
func TestP11_2Edges(t *testing.T) {
	p := compiled(t, echo)
	for _, n := range []int{0, 1, -1, 7, api.MaxUnits, -api.MaxUnits, api.MaxUnits - 1, 1 - api.MaxUnits} {
		runs(t, p, "io="+strconv.Itoa(n), vm.Int("i", n))
	}
	for _, n := range []int{api.MaxUnits + 1, -api.MaxUnits - 1, math.MaxInt, math.MinInt} {
		fails(t, p, api.ErrRange, vm.Int("i", n))
	}
	runs(t, p, "bo=false", vm.Bool("b", false))
	runs(t, p, "bo=true", vm.Bool("b", true))
	for _, n := range []int{2, -1, math.MaxInt, math.MinInt} {
		fails(t, p, api.ErrRange, vm.Fact{Name: "b", Type: dsl.TBool, N: n})
	}
	for _, s := range []string{"", "x", "\x00\xff\n\"\\", "\u00e9", strings.Repeat("x", 101), strings.Repeat("x", 200), strings.Repeat("\xff", 200)} {
		runs(t, p, "so="+strconv.Quote(s), vm.Text("s", s))
	}
	for _, s := range []string{strings.Repeat("x", 201), strings.Repeat("\u00e9", 101), strings.Repeat("x", 100000)} {
		fails(t, p, api.ErrLong, vm.Text("s", s))
	}
}

// TestP11_2Fields hands in facts with fields that their types do not name, which nothing is told of.
func TestP11_2Fields(t *testing.T) {
	p := compiled(t, echo)
	long := strings.Repeat("x", 1000)
	runs(t, p, "io=5", vm.Fact{Name: "i", Type: dsl.TInt, N: 5, S: long})
	runs(t, p, "bo=true", vm.Fact{Name: "b", Type: dsl.TBool, N: 1, S: long})
	for _, n := range []int{1, -1, math.MaxInt, math.MinInt} {
		runs(t, p, `so="x"`, vm.Fact{Name: "s", Type: dsl.TText, S: "x", N: n})
	}
	// Nor does what is compared hang on them.
	same := compiled(t, "input a : int ; input b : int ; input c : text ; input d : text ; input e : bool ; input f : bool ; output o : bool ; rule r 1 : then o = a = b and c = d and e = f and not (a != b or c != d or e != f) ;")
	runs(t, same, "o=true", vm.Fact{Name: "a", Type: dsl.TInt, N: 5, S: "x"}, vm.Int("b", 5), vm.Fact{Name: "c", Type: dsl.TText, N: 7, S: "x"}, vm.Text("d", "x"), vm.Fact{Name: "e", Type: dsl.TBool, N: 1, S: "x"}, vm.Fact{Name: "f", Type: dsl.TBool, N: 1, S: "y"})
}

// TestP11_2Names refuses facts of what is no input, or was told ahead.
func TestP11_2Names(t *testing.T) {
	p := compiled(t, echo)
	for _, s := range []string{"", "z", "I", "ii", "i ", "a", "zz", "io", "bo", "so", "r", "i\x00", "input", strings.Repeat("i", 100000)} {
		fails(t, p, api.ErrUnknown, vm.Int(s, 1))
		fails(t, p, api.ErrUnknown, vm.Bool("b", true), vm.Fact{Name: s, N: math.MaxInt, S: strings.Repeat("x", 201)})
	}
	fails(t, p, api.ErrUnknown, vm.Int("z", 1), vm.Int("z", 1))
	for _, f := range []vm.Fact{vm.Int("i", 1), vm.Bool("b", false), vm.Text("s", "")} {
		fails(t, p, api.ErrTwice, f, f)
		fails(t, p, api.ErrTwice, f, vm.Fact{Name: f.Name})
		fails(t, p, api.ErrTwice, f, vm.Fact{Name: f.Name, Type: f.Type, N: math.MaxInt, S: strings.Repeat("x", 201)})
	}
	fails(t, p, api.ErrTwice, vm.Int("i", 0), vm.Bool("b", false), vm.Text("s", ""), vm.Int("i", 0))
}

// TestP11_2Types refuses facts of another type than the input's.
func TestP11_2Types(t *testing.T) {
	p := compiled(t, echo)
	for i, s := range []string{"i", "b", "s"} {
		for _, kind := range []int{0, 1, 2, 3, 4, -1, math.MaxInt, math.MinInt} {
			f := vm.Fact{Name: s, Type: kind}
			if kind != i+1 {
				fails(t, p, api.ErrType, f)
				f.N, f.S = math.MaxInt, strings.Repeat("x", 201)
				fails(t, p, api.ErrType, f)
			}
		}
	}
}

// TestP11_2First asks which fault of facts is told: the first fact's, and ErrMany ahead of all.
func TestP11_2First(t *testing.T) {
	p := compiled(t, echo+"rule zero 2 : then io = 1 / 0 ;")
	faults := map[api.Errno]vm.Fact{
		api.ErrUnknown: vm.Int("z", 1), api.ErrTwice: vm.Text("s", "x"), api.ErrType: vm.Bool("i", true),
		api.ErrRange: vm.Int("i", math.MaxInt), api.ErrLong: vm.Text("s", strings.Repeat("x", 201)),
	}
	for one, f := range faults {
		front := []vm.Fact{vm.Text("s", "")}
		if one == api.ErrLong {
			front = []vm.Fact{vm.Bool("b", true)}
		}
		fails(t, p, api.ErrZero, front...)
		fails(t, p, one, append(front, f)...)
		for _, g := range faults {
			fails(t, p, one, append(front, f, g)...)
		}
		fails(t, p, api.ErrMany, append([]vm.Fact{f}, make([]vm.Fact, 100)...)...)
	}
	fails(t, p, api.ErrMany, make([]vm.Fact, 101)...)
	fails(t, p, api.ErrMany, make([]vm.Fact, 100000)...)
	fails(t, p, api.ErrUnknown, make([]vm.Fact, 100)...)
	fails(t, p, api.ErrZero)
}

// TestP11_2Many takes as many facts as there may be.
func TestP11_2Many(t *testing.T) {
	var x dsl.Theory
	var facts []vm.Fact
	for i := range 100 {
		name := "i" + strconv.Itoa(i)
		x.Decls = append(x.Decls, dsl.Decl{Name: name, Type: dsl.TInt})
		facts = append(facts, vm.Int(name, i))
	}
	p := program(t, x)
	runs(t, p, "", facts...)
	fails(t, p, api.ErrMany, append(slices.Clone(facts), vm.Int("i0", 0))...)
	for i := range facts {
		l := slices.Clone(facts)
		l[i].N = math.MinInt
		fails(t, p, api.ErrRange, l...)
		l[i] = facts[(i+1)%100]
		fails(t, p, api.ErrTwice, l...)
	}
	// Each fact is its own input's.
	x.Decls = append(x.Decls[:98], dsl.Decl{Name: "o", Type: dsl.TInt, Output: true})
	for i := range 98 {
		x.Rules = []dsl.Rule{{Name: "r", Target: "o", Then: dsl.Expr{Op: dsl.EName, S: "i" + strconv.Itoa(i)}}}
		runs(t, program(t, x), "o="+strconv.Itoa(i), facts[:98]...)
	}
}
