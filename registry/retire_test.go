package registry_test

import (
	"math"
	"testing"

	"exchequer/api"
	"exchequer/registry"
)

// TestP12_3Examples holds the chapter's examples.
func TestP12_3Examples(t *testing.T) {
	r := registry.New()
	publishes(t, r, "price", 10, source)
	publishes(t, r, "price", 20, source)
	retires(t, r, "price", 25, api.OK)
	retires(t, r, "price", 26, api.ErrNone)
	finds(t, r, "price", 24, 2)
	finds(t, r, "price", 25, 0)
	has(t, r, "price", version("price", 1, 10, 20), version("price", 2, 20, 25))
}

// TestP12_3Range retires at instants at their bounds and beyond, whether there is such a set or not.
func TestP12_3Range(t *testing.T) {
	r := registry.New()
	publishes(t, r, "a", 0, source)
	publishes(t, r, "b", 0, source)
	retires(t, r, "b", 5, api.OK)
	for _, at := range []int{-1, api.MaxInstant + 1, math.MinInt, math.MaxInt, -api.MaxInstant} {
		for _, set := range []string{"a", "b", "none"} {
			retires(t, r, set, at, api.ErrRange)
		}
		retires(t, r, "B", at, api.ErrName)
	}
	retires(t, r, "a", api.MaxInstant, api.OK)
	has(t, r, "a", version("a", 1, 0, api.MaxInstant))
	finds(t, r, "a", api.MaxInstant-1, 1)
	finds(t, r, "a", api.MaxInstant, 0)
}

// TestP12_3None retires what isn't there, or is retired already, be that too late or not.
func TestP12_3None(t *testing.T) {
	r := registry.New()
	retires(t, r, "a", 10, api.ErrNone)
	publishes(t, r, "a", 10, source)
	for _, set := range []string{"b", "a-", "aa"} {
		retires(t, r, set, 20, api.ErrNone)
		retires(t, r, set, 0, api.ErrNone)
	}
	retires(t, r, "a", 20, api.OK)
	for _, at := range []int{0, 9, 10, 11, 19, 20, 21, api.MaxInstant} {
		retires(t, r, "a", at, api.ErrNone)
	}
	has(t, r, "a", version("a", 1, 10, 20))
}

// TestP12_3Stale retires round the From of the last version, of which alone it hangs.
func TestP12_3Stale(t *testing.T) {
	for at, want := range map[int]api.Errno{0: api.ErrStale, 9: api.ErrStale, 15: api.ErrStale, 19: api.ErrStale, 20: api.ErrStale, 21: api.OK, 22: api.OK, api.MaxInstant: api.OK} {
		r := registry.New()
		publishes(t, r, "a", 10, source)
		publishes(t, r, "a", 20, source)
		publishes(t, r, "b", 9, source)
		retires(t, r, "a", at, want)
		until := at
		if want != api.OK {
			until = 0
		}
		has(t, r, "a", version("a", 1, 10, 20), version("a", 2, 20, until))
		has(t, r, "b", version("b", 1, 9, 0))
	}
	r := registry.New()
	publishes(t, r, "a", 0, source)
	publishes(t, r, "b", api.MaxInstant, source)
	retires(t, r, "a", 0, api.ErrStale)
	retires(t, r, "b", api.MaxInstant, api.ErrStale)
	retires(t, r, "a", 1, api.OK)
}

// TestP12_3Again retires version by version, with gaps between and without.
func TestP12_3Again(t *testing.T) {
	r := registry.New()
	publishes(t, r, "a", 10, source)
	retires(t, r, "a", 20, api.OK)
	publishes(t, r, "a", 20, source)
	retires(t, r, "a", 30, api.OK)
	publishes(t, r, "a", 40, source)
	retires(t, r, "a", 40, api.ErrStale)
	retires(t, r, "a", 41, api.OK)
	publishes(t, r, "a", 50, source)
	publishes(t, r, "a", 60, source)
	has(t, r, "a", version("a", 1, 10, 20), version("a", 2, 20, 30), version("a", 3, 40, 41), version("a", 4, 50, 60), version("a", 5, 60, 0))
	for at, number := range map[int]int{9: 0, 10: 1, 19: 1, 20: 2, 29: 2, 30: 0, 39: 0, 40: 3, 41: 0, 49: 0, 50: 4, 59: 4, 60: 5} {
		finds(t, r, "a", at, number)
	}
}
