package registry_test

import (
	"fmt"
	"math/rand/v2"
	"strconv"
	"strings"
	"testing"

	"exchequer/api"
	"exchequer/dsl"
	"exchequer/registry"
	"exchequer/vm"
)

// source is that of the chapter's example.
const source = "output p : int ; rule r 1 : then p = 1 ;"

// priced is a source of rules that conclude a number.
func priced(n int) string {
	return "output p : int ; rule r 1 : then p = " + strconv.Itoa(n) + " ;"
}

// version is what a version of the example's source should tell.
func version(set string, number, from, until int) registry.Version {
	return registry.Version{Set: set, Number: number, From: from, Until: until, Source: source}
}

// publishes holds Publish of a source to answer a version of the next number, which has no end, and answers it.
func publishes(t *testing.T, r *registry.Registry, set string, from int, source string) registry.Version {
	t.Helper()
	want := registry.Version{Set: set, Number: len(r.Versions(set)) + 1, From: from, Source: source}
	v, line, e := r.Publish(set, from, source)
	if v != want || line != 0 || e != api.OK {
		t.Fatalf("Publish(%s, %d, ..): %.200v, %d, %d", set, from, v, line, e)
	}
	return v
}

// refuses holds Publish to have that fault, which changes nothing.
func refuses(t *testing.T, r *registry.Registry, set string, from int, source string, line int, bad api.Errno) {
	t.Helper()
	was := state(r)
	if v, at, e := r.Publish(set, from, source); v != (registry.Version{}) || at != line || e != bad {
		t.Errorf("Publish(%q, %d, %.100q): %.200v, %d, %d, not %d, %d", set, from, source, v, at, e, line, bad)
	}
	if is := state(r); is != was {
		t.Errorf("Publish(%q, %d, %.100q): %.500s, not %.500s", set, from, source, is, was)
	}
}

// retires holds Retire to answer that, and where it is an error, to change nothing.
func retires(t *testing.T, r *registry.Registry, set string, at int, want api.Errno) {
	t.Helper()
	was := state(r)
	if e := r.Retire(set, at); e != want {
		t.Errorf("Retire(%q, %d): %d, not %d", set, at, e, want)
	}
	if is := state(r); (is == was) != (want != api.OK) {
		t.Errorf("Retire(%q, %d): %.500s, not %.500s", set, at, is, was)
	}
}

// finds holds Lookup to tell a version of that number, and that Versions has; 0 is none.
func finds(t *testing.T, r *registry.Registry, set string, at, number int) {
	t.Helper()
	v, e := r.Lookup(set, at)
	if number == 0 {
		if v != (registry.Version{}) || e != api.ErrNone {
			t.Errorf("Lookup(%s, %d): %v, %d", set, at, v, e)
		}
		return
	}
	if e != api.OK || v.Number != number || v != r.Versions(set)[number-1] {
		t.Errorf("Lookup(%s, %d): %v, %d, not %d", set, at, v, e, number)
	}
}

// has holds a set's versions against those.
func has(t *testing.T, r *registry.Registry, set string, want ...registry.Version) {
	t.Helper()
	if got := r.Versions(set); told(got) != told(want) {
		t.Errorf("Versions(%s): %s, not %s", set, told(got), told(want))
	}
}

// told are versions as a text, all their fields in it.
func told(l []registry.Version) string {
	var b strings.Builder
	for _, v := range l {
		fmt.Fprintf(&b, "%q %d: %d to %d: %q\n", v.Set, v.Number, v.From, v.Until, v.Source)
	}
	return b.String()
}

// state is all that a registry tells, as a text: each set's versions, and what is looked up where these begin and end.
func state(r platform) string {
	var b strings.Builder
	fmt.Fprintf(&b, "%q, %d compiled\n", r.Sets(), r.Compiled())
	for _, set := range r.Sets() {
		l := r.Versions(set)
		b.WriteString(told(l))
		for _, v := range l {
			for _, at := range []int{v.From - 1, v.From, v.Until - 1, v.Until} {
				found, e := r.Lookup(set, at)
				fmt.Fprintf(&b, "%d: %d, %d\n", at, found.Number, e)
			}
		}
	}
	return b.String()
}

// concludes is all that a run of a program tells, as a text.
func concludes(p *vm.Program, facts ...vm.Fact) string {
	l, done, e := p.Run(facts)
	return fmt.Sprint(l, done, e, " of ", p.Len())
}

// compiled is the program of a source that has one.
func compiled(t *testing.T, source string) *vm.Program {
	t.Helper()
	x, line, e := dsl.Parse(source)
	p, item, bad := vm.Compile(x)
	if e != api.OK || bad != api.OK {
		t.Fatalf("%s: %d, %d, %d, %d", source, line, e, item, bad)
	}
	return p
}

// pick is one of them, by a chance that is fixed ahead.
func pick[T any](r *rand.Rand, l ...T) T { return l[r.IntN(len(l))] }

// full is a registry of as many sets as may be, of which the set `full` has as many versions as may be, from 1, 2, .. on.
func full(t *testing.T) *registry.Registry {
	t.Helper()
	r := registry.New()
	for i := range api.MaxVersions {
		publishes(t, r, "full", i+1, source)
	}
	for i := range api.MaxSets - 1 {
		publishes(t, r, "s"+strconv.Itoa(i), 10, source)
	}
	return r
}
