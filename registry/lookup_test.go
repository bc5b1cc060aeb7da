package registry_test

import (
	"math"
	"math/rand/v2"
	"slices"
	"testing"

	"exchequer/api"
	"exchequer/registry"
)

// TestP12_4Lookup looks up each instant of a set's time, and of another one's.
func TestP12_4Lookup(t *testing.T) {
	r := registry.New()
	publishes(t, r, "a", 3, source)
	publishes(t, r, "a", 5, source)
	publishes(t, r, "a", 6, source)
	retires(t, r, "a", 8, api.OK)
	publishes(t, r, "a", 10, source)
	publishes(t, r, "b", 4, source)
	for at, number := range []int{0, 0, 0, 1, 1, 2, 3, 3, 0, 0, 4, 4, 4} {
		finds(t, r, "a", at, number)
		finds(t, r, "b", at, min(at/4, 1))
		finds(t, r, "c", at, 0)
	}
	finds(t, r, "a", api.MaxInstant, 4)
}

// TestP12_4Errors looks up what may not be, in the order of the errors.
func TestP12_4Errors(t *testing.T) {
	r := registry.New()
	publishes(t, r, "a", 0, source)
	for _, at := range []int{-1, api.MaxInstant + 1, math.MinInt, math.MaxInt, -api.MaxInstant} {
		for set, want := range map[string]api.Errno{"a": api.ErrRange, "none": api.ErrRange, "A": api.ErrName} {
			if v, e := r.Lookup(set, at); v != (registry.Version{}) || e != want {
				t.Errorf("Lookup(%s, %d): %v, %d", set, at, v, e)
			}
		}
	}
	for _, at := range []int{0, api.MaxInstant} {
		finds(t, r, "a", at, 1)
		finds(t, r, "none", at, 0)
	}
}

// TestP12_4Versions asks for all versions of sets that are there, and of others.
func TestP12_4Versions(t *testing.T) {
	r := registry.New()
	for _, set := range []string{"a", "", "A", "none"} {
		has(t, r, set)
	}
	var want []registry.Version
	for i := range 12 {
		v := publishes(t, r, "a", 7*i, priced(i))
		if i > 0 {
			want[i-1].Until = 7 * i
		}
		want = append(want, v)
		publishes(t, r, "b", i, source)
		has(t, r, "a", want...)
	}
	for _, set := range []string{"", "A", "none", "a ", "aa"} {
		has(t, r, set)
	}
}

// TestP12_4Sets publishes sets in any order, and asks for their names, which rise byte by byte.
func TestP12_4Sets(t *testing.T) {
	names := []string{"a", "a-", "a--", "a-0", "a-a", "a0", "a0-", "a1", "a10", "a2", "aa", "ab", "b", "b-a", "z", "z-z", "z9", "zz"}
	r := rand.New(rand.NewPCG(12, 4))
	for range 50 {
		x := registry.New()
		var there []string
		for _, i := range r.Perm(len(names)) {
			if got := x.Sets(); !slices.Equal(got, there) {
				t.Fatalf("%q, not %q", got, there)
			}
			publishes(t, x, names[i], r.IntN(10), source)
			there = append(there, names[i])
			slices.Sort(there)
		}
		for range 10 {
			x.Publish(names[r.IntN(len(names))], 20+r.IntN(10), source)
			x.Retire(names[r.IntN(len(names))], 50)
			x.Publish("Z", 0, source)
			x.Publish("new", -1, source)
			x.Publish("new", 0, "x")
			x.Retire("new", 0)
			x.Lookup("new", 0)
			x.Program("new", 1)
			x.Versions("new")
		}
		if got := x.Sets(); !slices.Equal(got, names) {
			t.Errorf("%q, not %q", got, names)
		}
	}
}
