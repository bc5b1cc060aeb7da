package registry_test

import (
	"math"
	"testing"

	"exchequer/api"
	"exchequer/registry"
	"exchequer/vm"
)

// programOf is a version's program, which there is.
func programOf(t *testing.T, r *registry.Registry, set string, number int) *vm.Program {
	t.Helper()
	p, e := r.Program(set, number)
	if p == nil || e != api.OK {
		t.Fatalf("Program(%s, %d): %v, %d", set, number, p, e)
	}
	return p
}

// counts holds how many versions were compiled.
func counts(t *testing.T, r *registry.Registry, want int) {
	t.Helper()
	if n := r.Compiled(); n != want {
		t.Errorf("%d compiled, not %d", n, want)
	}
}

// TestP12_5Same asks for programs again and again: each is that of its version, and is made once.
func TestP12_5Same(t *testing.T) {
	r := registry.New()
	for i := range 10 {
		publishes(t, r, "a", i, priced(i))
		publishes(t, r, "b", i, priced(10+i))
	}
	counts(t, r, 0)
	made := map[*vm.Program]int{}
	asked := 0
	for _, set := range []string{"a", "b"} {
		for _, number := range []int{3, 10, 1, 9, 2, 8, 4, 7, 5, 6} {
			p := programOf(t, r, set, number)
			asked++
			counts(t, r, asked)
			n := number - 1
			if set == "b" {
				n += 10
			}
			if got, want := concludes(p), concludes(compiled(t, priced(n))); got != want {
				t.Errorf("%s %d: %s, not %s", set, number, got, want)
			}
			for range 3 {
				if programOf(t, r, set, number) != p {
					t.Errorf("%s %d: another one", set, number)
				}
			}
			counts(t, r, asked)
			made[p]++
		}
	}
	if len(made) != 20 {
		t.Errorf("%d programs", len(made))
	}
}

// TestP12_5Errors asks for programs of what isn't there, which are not counted.
func TestP12_5Errors(t *testing.T) {
	r := registry.New()
	publishes(t, r, "a", 10, source)
	publishes(t, r, "a", 20, source)
	for _, number := range []int{0, -1, 3, 10, 20, 100, 101, math.MinInt, math.MaxInt, math.MinInt + 1, 1 << 32, 1<<32 + 1} {
		for set, want := range map[string]api.Errno{"a": api.ErrNone, "b": api.ErrNone, "": api.ErrName, "A": api.ErrName} {
			if p, e := r.Program(set, number); p != nil || e != want {
				t.Errorf("Program(%q, %d): %v, %d", set, number, p, e)
			}
		}
	}
	if p, e := r.Program("b", 1); p != nil || e != api.ErrNone {
		t.Errorf("%v, %d", p, e)
	}
	counts(t, r, 0)
}

// TestP12_5Counted makes calls of all other names: none of them asks for a program.
func TestP12_5Counted(t *testing.T) {
	r := registry.New()
	publishes(t, r, "a", 10, source)
	p := programOf(t, r, "a", 1)
	publishes(t, r, "a", 20, source)
	refuses(t, r, "a", 20, source, 0, api.ErrStale)
	refuses(t, r, "a", 30, "x", 1, api.ErrSyntax)
	retires(t, r, "a", 25, api.OK)
	finds(t, r, "a", 20, 2)
	r.Sets()
	counts(t, r, 1)
	// What was made stays, whatever became of its version.
	if programOf(t, r, "a", 1) != p {
		t.Error("another one")
	}
	programOf(t, r, "a", 2)
	counts(t, r, 2)
	// Each registry counts by itself.
	counts(t, registry.New(), 0)
}

// TestP12_5Kinds asks for the programs of sources of many forms.
func TestP12_5Kinds(t *testing.T) {
	r := registry.New()
	for i, s := range []string{"", "# nothing", source, "input q : int ; output p : int ; output v : text ; rule r 1 : if q > 3 then p = q * 2 ; rule s 2 : if known p then v = \"x\" ;", "output p : int ;\r\nrule r 1 : then p = 1 / 0 ;"} {
		publishes(t, r, "a", i, s)
		p, want := programOf(t, r, "a", i+1), compiled(t, s)
		for _, facts := range [][]vm.Fact{nil, {vm.Int("q", 5)}, {vm.Int("q", 1)}, {vm.Text("q", "x")}} {
			if got := concludes(p, facts...); got != concludes(want, facts...) {
				t.Errorf("%q: %s, not %s", s, got, concludes(want, facts...))
			}
		}
	}
}
