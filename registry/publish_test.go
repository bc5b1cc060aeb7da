package registry_test

import (
	"math"
	"strconv"
	"strings"
	"testing"

	"exchequer/api"
	"exchequer/registry"
)

// TestP12_2Examples holds the chapter's examples.
func TestP12_2Examples(t *testing.T) {
	r := registry.New()
	one := publishes(t, r, "price", 10, source)
	finds(t, r, "price", 9, 0)
	if v, e := r.Lookup("price", 10); v != one || v != version("price", 1, 10, 0) || e != api.OK {
		t.Errorf("%v, %d", v, e)
	}
	two := publishes(t, r, "price", 20, "output p : int ;")
	one.Until = 20
	if v, e := r.Lookup("price", 19); v != one || e != api.OK {
		t.Errorf("%v, %d", v, e)
	}
	has(t, r, "price", one, two)
	refuses(t, r, "price", 20, source, 0, api.ErrStale)
	refuses(t, r, "Price", 20, source, 0, api.ErrName)
	refuses(t, r, "price", 30, "x", 1, api.ErrSyntax)
	retires(t, r, "price", 25, api.OK)
	retires(t, r, "price", 26, api.ErrNone)
	finds(t, r, "price", 25, 0)
	refuses(t, r, "price", 24, source, 0, api.ErrStale)
}

// TestP12_2Sources publishes sources of many forms, which stand in the versions byte by byte.
func TestP12_2Sources(t *testing.T) {
	r := registry.New()
	longest := source + strings.Repeat(" ", api.MaxText-len(source))
	var want []registry.Version
	for i, s := range []string{"", " ", "\n", "# nothing", "\t" + source + "\r\n", "rule r 1:then p=1;output p:int;", source, source, longest, "input q : text ;"} {
		if i > 0 {
			want[i-1].Until = 10 * i
		}
		want = append(want, publishes(t, r, "a", 10*i, s))
		has(t, r, "a", want...)
		finds(t, r, "a", 10*i, i+1)
	}
	refuses(t, r, "a", 1000, longest+" ", 0, api.ErrLong)
}

// TestP12_2Instants publishes for instants at their bounds and beyond.
func TestP12_2Instants(t *testing.T) {
	r := registry.New()
	for _, set := range []string{"a", "b"} {
		for _, from := range []int{-1, api.MaxInstant + 1, math.MinInt, math.MaxInt, -api.MaxInstant, api.MaxInstant + 1<<32} {
			refuses(t, r, set, from, source, 0, api.ErrRange)
			refuses(t, r, set, from, "x", 0, api.ErrRange)
			refuses(t, r, set, from, "output p : int ; rule r 1 : then p = q ;", 0, api.ErrRange)
		}
		publishes(t, r, set, 0, source)
	}
	publishes(t, r, "a", 1, source)
	publishes(t, r, "a", api.MaxInstant, source)
	has(t, r, "a", version("a", 1, 0, 1), version("a", 2, 1, api.MaxInstant), version("a", 3, api.MaxInstant, 0))
	refuses(t, r, "a", api.MaxInstant, source, 0, api.ErrStale)
	has(t, r, "b", version("b", 1, 0, 0))
}

// doubled is the text of an expression of two, four, .. of another one.
func doubled(n int, s string) string {
	for range n {
		s = "(" + s + "+" + s + ")"
	}
	return s
}

// TestP12_2Parse refuses what chapter 9 refuses, with its line.
func TestP12_2Parse(t *testing.T) {
	r := registry.New()
	publishes(t, r, "a", 10, source)
	for s, want := range map[string]struct {
		line int
		e    api.Errno
	}{
		"x":                                      {1, api.ErrSyntax},
		"\n\n\nx":                                {4, api.ErrSyntax},
		"output p : int ;\n?":                    {2, api.ErrSyntax},
		source + "\n\n" + "rule":                 {3, api.ErrSyntax},
		"input q : int ;\nrule r 1 : then p = ;": {2, api.ErrSyntax},
		"output p : int ;\nrule r 1 : then p = 01 ;":                                                   {2, api.ErrSyntax},
		"output p : int ;\nrule r 1 : then p =\n" + strings.Repeat("-", 31) + "1 ;\nx":                 {4, api.ErrSyntax},
		"output p : int ;\nrule r 1 : then p =\n" + strings.Repeat("-", 32) + "1\n;":                   {4, api.ErrDeep},
		strings.Repeat("input q : int ;\n", 101):                                                       {101, api.ErrMany},
		strings.Repeat("#\n", api.MaxText/2) + "x":                                                     {0, api.ErrLong},
		strings.Repeat("#\n", api.MaxText/2-1) + "x":                                                   {api.MaxText / 2, api.ErrSyntax},
		"output p : int ;\nrule r 1 : then p = 1 ; rule r 1 : then p = z ;\nrule s 1 : then p = 2 ; ;": {3, api.ErrSyntax},
	} {
		for _, set := range []string{"a", "b"} {
			refuses(t, r, set, 20, s, want.line, want.e)
		}
	}
	has(t, r, "a", version("a", 1, 10, 0))
}

// TestP12_2Compile refuses what chapter 11 refuses, with its item.
func TestP12_2Compile(t *testing.T) {
	r := registry.New()
	publishes(t, r, "a", 10, source)
	for s, want := range map[string]struct {
		item int
		e    api.Errno
	}{
		"input q : int ;\n\n\ninput q : text ;":                                      {2, api.ErrTwice},
		"rule r 1 : then p = 1 ;":                                                    {1, api.ErrUnknown},
		source + "rule s 2 : then p = q ;":                                           {3, api.ErrUnknown},
		source + "rule s 2 : then p = true ;":                                        {3, api.ErrType},
		source + "rule s 2 : if 1 then p = 2 ;":                                      {3, api.ErrType},
		source + "rule r 2 : then p = 2 ;":                                           {3, api.ErrTwice},
		source + "\n\n\n\n\nrule s 1 : then p = 2 ;\noutput q : int ;":               {4, api.ErrRank},
		"\n\noutput p : int ; rule r 1 : then p = p + 1 ;":                           {0, api.ErrCycle},
		"\n\noutput p : int ; rule r 1 : then p = " + doubled(12, "1") + " ;":        {0, api.ErrMany},
		source + "rule s 2 : if false then p = 2 ; rule u 2 : if false then p = 3 ;": {4, api.ErrRank},
	} {
		for _, set := range []string{"a", "b"} {
			refuses(t, r, set, 20, s, want.item, want.e)
		}
	}
	publishes(t, r, "a", 20, "output p : int ; rule r 1 : then p = "+doubled(11, "1")+" ;")
}

// TestP12_2Sets publishes for as many sets as there may be.
func TestP12_2Sets(t *testing.T) {
	r := registry.New()
	for i := range 20 {
		publishes(t, r, "s"+strconv.Itoa(i), 10, source)
	}
	for _, set := range []string{"s20", "a", "z", "s-1"} {
		refuses(t, r, set, 0, source, 0, api.ErrMany)
		refuses(t, r, set, 20, source, 0, api.ErrMany)
	}
	// What is there goes on, and what is retired is there.
	for i := range 20 {
		set := "s" + strconv.Itoa(i)
		publishes(t, r, set, 20, source)
		retires(t, r, set, 30, api.OK)
		has(t, r, set, version(set, 1, 10, 20), version(set, 2, 20, 30))
	}
	refuses(t, r, "s20", 40, source, 0, api.ErrMany)
	if n := len(r.Sets()); n != 20 {
		t.Errorf("%d sets", n)
	}
}

// TestP12_2Versions publishes as many versions of a set as there may be.
func TestP12_2Versions(t *testing.T) {
	r := registry.New()
	var want []registry.Version
	for i := range 100 {
		if i > 0 {
			want[i-1].Until = 2 * i
		}
		want = append(want, publishes(t, r, "a", 2*i, priced(i)))
		has(t, r, "a", want...)
	}
	for _, from := range []int{0, 198, 199, api.MaxInstant} {
		refuses(t, r, "a", from, source, 0, api.ErrMany)
	}
	retires(t, r, "a", 300, api.OK)
	refuses(t, r, "a", 300, source, 0, api.ErrMany)
	refuses(t, r, "a", 299, source, 0, api.ErrMany)
	for at := range 300 {
		finds(t, r, "a", at, min(at/2+1, 100))
	}
	finds(t, r, "a", 300, 0)
	publishes(t, r, "b", 0, source)
}

// TestP12_2Stale publishes for instants round the last version's.
func TestP12_2Stale(t *testing.T) {
	for until, least := range map[int]int{0: 51, 51: 51, 52: 52, 60: 60, api.MaxInstant: api.MaxInstant} {
		for _, from := range []int{0, 9, 10, 11, 49, 50, 51, 52, 53, 59, 60, 61, api.MaxInstant - 1, api.MaxInstant} {
			r := registry.New()
			publishes(t, r, "a", 10, source)
			publishes(t, r, "a", 50, source)
			publishes(t, r, "b", 90, source)
			if until > 0 {
				retires(t, r, "a", until, api.OK)
			}
			if from < least {
				refuses(t, r, "a", from, source, 0, api.ErrStale)
				has(t, r, "a", version("a", 1, 10, 50), version("a", 2, 50, until))
				continue
			}
			publishes(t, r, "a", from, source)
			// The one ahead ends where it was retired, and else where the new one begins.
			end := until
			if until == 0 {
				end = from
			}
			has(t, r, "a", version("a", 1, 10, 50), version("a", 2, 50, end), version("a", 3, from, 0))
			has(t, r, "b", version("b", 1, 90, 0))
		}
	}
}

// TestP12_2Order publishes with every set of faults: the one that the chapter names first is told.
func TestP12_2Order(t *testing.T) {
	r := full(t)
	retires(t, r, "s2", 30, api.OK)
	texts := []struct {
		s    string
		line int
		e    api.Errno
	}{
		{source, 0, api.OK},
		{"\n\nrule r 1 : then p = z ;", 1, api.ErrUnknown},
		{"\n\nrule r 1 : then p = z ;\n?", 4, api.ErrSyntax},
		{strings.Repeat("?", api.MaxText+1), 0, api.ErrLong},
	}
	for _, set := range []string{"s1", "s2", "full", "new", "NEW"} {
		for _, from := range []int{40, 29, 10, -1} {
			for _, x := range texts {
				line, want := 0, api.OK
				switch {
				case set == "NEW":
					want = api.ErrName
				case from == -1:
					want = api.ErrRange
				case x.e != api.OK:
					line, want = x.line, x.e
				case set == "full" || set == "new":
					want = api.ErrMany
				case from == 10 || from == 29 && set == "s2":
					want = api.ErrStale
				default:
					continue
				}
				refuses(t, r, set, from, x.s, line, want)
			}
		}
	}
}

// TestP12_2None publishes in a registry that was not made by New: its zero value is an empty one, and one that is none has no room.
func TestP12_2None(t *testing.T) {
	var zero registry.Registry
	publishes(t, &zero, "a", 10, source)
	has(t, &zero, "a", version("a", 1, 10, 0))
	var none *registry.Registry
	refuses(t, none, "A", 10, source, 0, api.ErrName)
	refuses(t, none, "a", -1, source, 0, api.ErrRange)
	refuses(t, none, "a", 10, "\nx", 2, api.ErrSyntax)
	refuses(t, none, "a", 10, "rule r 1 : then p = 1 ;", 1, api.ErrUnknown)
	refuses(t, none, "a", 10, source, 0, api.ErrMany)
	retires(t, none, "A", 10, api.ErrName)
	retires(t, none, "a", -1, api.ErrRange)
	for _, r := range []*registry.Registry{none, new(registry.Registry), registry.New()} {
		retires(t, r, "a", 10, api.ErrNone)
		finds(t, r, "a", 10, 0)
		has(t, r, "a")
		if p, e := r.Program("a", 1); p != nil || e != api.ErrNone || r.Compiled() != 0 || len(r.Sets()) != 0 {
			t.Errorf("%v, %d, %d, %v", p, e, r.Compiled(), r.Sets())
		}
	}
}
