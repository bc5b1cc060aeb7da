package registry_test

import (
	"math/rand/v2"
	"testing"

	"exchequer/api"
	"exchequer/registry"
)

// kept is what of a version never changes.
type kept struct {
	Set          string
	Number, From int
	Source       string
}

// numbered are the numbers of the versions that are looked up at each of many instants, 0 where there is none.
func numbered(r *registry.Registry, set string) []int {
	var l []int
	for at := range 100 {
		v, _ := r.Lookup(set, at)
		l = append(l, v.Number)
	}
	return l
}

// TestP12_7One makes many calls: at each instant at most one of a set's versions holds, and that is the one that is looked up; one that is published changes nothing of what was ahead of its From.
func TestP12_7One(t *testing.T) {
	r := rand.New(rand.NewPCG(12, 7))
	gaps, ones := 0, 0
	for range 100 {
		x := registry.New()
		sets := []string{"a", "b"}
		for done := range 150 {
			c := anyCall(r, sets, done)
			before := map[string][]int{"a": numbered(x, "a"), "b": numbered(x, "b")}
			_, e := c.on(x)
			for _, set := range sets {
				after := numbered(x, set)
				for at, number := range after {
					// What is retired, or published for an instant on, is so from there on.
					isSame := number == before[set][at]
					isBehind := e == api.OK && (c.name == 'P' || c.name == 'R') && c.set == set && at >= c.n
					if !isSame && !isBehind {
						t.Fatalf("%c %+v: %d at %d, not %d", c.name, c, number, at, before[set][at])
					}
				}
			}
		}
		for _, set := range sets {
			for at := range 100 {
				var held []registry.Version
				for _, v := range x.Versions(set) {
					if v.From <= at && (v.Until == 0 || at < v.Until) {
						held = append(held, v)
					}
				}
				found, e := x.Lookup(set, at)
				switch {
				case len(held) > 1:
					t.Errorf("%s at %d: %s", set, at, told(held))
				case len(held) == 0 && e == api.ErrNone:
					gaps++
				case len(held) == 1 && e == api.OK && found == held[0]:
					ones++
				default:
					t.Errorf("%s at %d: %v, %d, not %s", set, at, found, e, told(held))
				}
			}
		}
	}
	if gaps < 100 || ones < 100 {
		t.Errorf("%d, %d", gaps, ones)
	}
}

// TestP12_7Until publishes behind a version that has no end: of what is looked up ahead, that it ends now is all that is new.
func TestP12_7Until(t *testing.T) {
	r := registry.New()
	one := publishes(t, r, "a", 10, priced(1))
	publishes(t, r, "a", 30, priced(2))
	one.Until = 30
	for at := 10; at < 30; at++ {
		if v, e := r.Lookup("a", at); v != one || e != api.OK {
			t.Errorf("%d: %v, %d", at, v, e)
		}
	}
	retires(t, r, "a", 40, api.OK)
	two, _ := r.Lookup("a", 39)
	publishes(t, r, "a", 50, priced(3))
	if v, e := r.Lookup("a", 39); v != two || e != api.OK {
		t.Errorf("%v, %d", v, e)
	}
	finds(t, r, "a", 49, 0)
}

// TestP12_8Kept makes many calls: an error changes nothing, and of each version that was ever told all but its Until stays.
func TestP12_8Kept(t *testing.T) {
	r := rand.New(rand.NewPCG(12, 8))
	errors := map[api.Errno]int{}
	for range 60 {
		x := registry.New()
		sets := []string{"a", "b"}
		told := map[string][]kept{}
		for done := range 200 {
			c := anyCall(r, sets, done)
			before := state(x)
			_, e := c.on(x)
			errors[e]++
			after := state(x)
			if isWrite := c.name == 'P' || c.name == 'R' || c.name == 'p'; (e != api.OK || !isWrite) && before != after {
				t.Fatalf("%c %+v: %s, not %s", c.name, c, after, before)
			}
			for _, set := range sets {
				for i, v := range x.Versions(set) {
					k := kept{v.Set, v.Number, v.From, v.Source}
					if i == len(told[set]) && c.name == 'P' && e == api.OK {
						told[set] = append(told[set], k)
					}
					if i >= len(told[set]) || told[set][i] != k {
						t.Fatalf("%c %+v: %v of %v", c.name, c, v, told[set])
					}
				}
			}
		}
	}
	for _, e := range []api.Errno{api.OK, api.ErrName, api.ErrRange, api.ErrNone, api.ErrStale, api.ErrSyntax, api.ErrCycle} {
		if errors[e] < 20 {
			t.Errorf("%d of error %d", errors[e], e)
		}
	}
}

// TestP12_8Gone makes sure that no version goes away.
func TestP12_8Gone(t *testing.T) {
	r := registry.New()
	for i := range 10 {
		publishes(t, r, "a", 10*i, priced(i))
		retires(t, r, "a", 10*i+5, api.OK)
		for n := range i + 1 {
			finds(t, r, "a", 10*n+4, n+1)
			if got := concludes(programOf(t, r, "a", n+1)); got != concludes(compiled(t, priced(n))) {
				t.Errorf("%d: %s", n, got)
			}
		}
		if n := len(r.Versions("a")); n != i+1 {
			t.Errorf("%d versions, not %d", n, i+1)
		}
	}
}
