package registry_test

import (
	"strings"
	"testing"

	"exchequer/api"
	"exchequer/registry"
)

// TestP12_1Names asks for names that may be, and for others.
func TestP12_1Names(t *testing.T) {
	for s, want := range map[string]bool{
		"a": true, "z": true, "price": true, "a-1": true, "a-": true, "a--b": true, "z9": true, "a0": true,
		"": false, "1": false, "-": false, "1a": false, "-a": false, "9z": false,
		"A": false, "aA": false, "Price": false, "a_b": false, "a.b": false, "a/b": false, "a b": false, " a": false, "a ": false, "a\n": false, "a\x00": false,
		"é": false, "aé": false, "ａ": false, "a１": false, "a–b": false, "a\xff": false, "\xe1": false,
	} {
		if got := registry.ValidName(s); got != want {
			t.Errorf("%q: %t", s, got)
		}
	}
}

// TestP12_1Bytes asks for each byte in each place of a name.
func TestP12_1Bytes(t *testing.T) {
	const letters = "abcdefghijklmnopqrstuvwxyz"
	for length := 1; length <= 30; length++ {
		for at := range length {
			for c := range 256 {
				b := []byte(strings.Repeat("a", length))
				b[at] = byte(c)
				may := letters
				if at > 0 {
					may += "0123456789-"
				}
				if got := registry.ValidName(string(b)); got != (strings.IndexByte(may, byte(c)) >= 0) {
					t.Errorf("%q: %t", b, got)
				}
			}
		}
	}
}

// TestP12_1Length asks for names of many lengths.
func TestP12_1Length(t *testing.T) {
	for _, c := range []string{"a", "z"} {
		for n := range 100 {
			if got := registry.ValidName(strings.Repeat(c, n)); got != (1 <= n && n <= 30) {
				t.Errorf("%d of %s: %t", n, c, got)
			}
		}
	}
	if registry.ValidName(strings.Repeat("a", 1<<20)) || registry.ValidName("a"+strings.Repeat("é", 15)) {
		t.Error("a long one")
	}
}

// TestP12_1Asked hands names to each call: one that may not be is refused ahead of all else.
func TestP12_1Asked(t *testing.T) {
	longest := "a" + strings.Repeat("-", 28) + "9"
	r := registry.New()
	publishes(t, r, "a", 10, source)
	publishes(t, r, longest, 10, source)
	retires(t, r, longest, 20, api.OK)
	for _, set := range []string{"", "A", "1", "a_", "a ", "a\x00", longest + "9"} {
		for _, at := range []int{-1, 0, 10, api.MaxInstant + 1} {
			for _, s := range []string{source, "x", "output p : int ; rule r 1 : then p = p ;"} {
				refuses(t, r, set, at, s, 0, api.ErrName)
			}
			retires(t, r, set, at, api.ErrName)
			if v, e := r.Lookup(set, at); v != (registry.Version{}) || e != api.ErrName {
				t.Errorf("Lookup(%q, %d): %v, %d", set, at, v, e)
			}
			if p, e := r.Program(set, at); p != nil || e != api.ErrName {
				t.Errorf("Program(%q, %d): %v, %d", set, at, p, e)
			}
		}
		has(t, r, set)
	}
}
