package registry_test

import (
	"slices"
	"strings"
	"testing"
	"unsafe"

	"exchequer/api"
	"exchequer/registry"
)

// spoil writes to the bytes of texts that are in memory of their own.
func spoil(l ...string) {
	for _, s := range l {
		for i := range len(s) {
			unsafe.Slice(unsafe.StringData(s), len(s))[i] ^= 0x15
		}
	}
}

// spoilVersions writes to all of versions, the room behind them included.
func spoilVersions(l ...registry.Version) {
	for i, v := range l {
		spoil(v.Set, v.Source)
		l[i] = registry.Version{Set: "spoilt", Number: -1, From: -1, Until: -1, Source: "spoilt"}
	}
	l = l[:cap(l)]
	for i := range l {
		l[i] = registry.Version{Set: "spare", Number: -2}
	}
}

// TestP12_6HandedIn hands texts in, which are as they were then, and spoils them: nothing that is told hangs on them.
func TestP12_6HandedIn(t *testing.T) {
	r, want := registry.New(), registry.New()
	for i := range 5 {
		for _, name := range []string{"a", "b-c"} {
			publishes(t, want, name, 10*i, priced(i))
			set, text := strings.Clone(name), strings.Clone(priced(i))
			if _, _, e := r.Publish(set, 10*i, text); e != api.OK || set != name || text != priced(i) {
				t.Fatalf("%s, %s, %d", set, text, e)
			}
			spoil(set, text)
			if is, was := state(r), state(want); is != was {
				t.Fatalf("%s, not %s", is, was)
			}
		}
	}
	for _, x := range []*registry.Registry{r, want} {
		set := strings.Clone("a")
		if e := x.Retire(set, 50); e != api.OK || set != "a" {
			t.Errorf("%s, %d", set, e)
		}
		if _, e := x.Program(set, 2); e != api.OK || set != "a" {
			t.Errorf("%s, %d", set, e)
		}
		x.Lookup(set, 7)
		x.Versions(set)
		registry.ValidName(set)
		if set != "a" {
			t.Error(set)
		}
		spoil(set)
	}
	if is, was := state(r), state(want); is != was {
		t.Errorf("%s, not %s", is, was)
	}
	if got := concludes(programOf(t, r, "a", 3)); got != concludes(compiled(t, priced(2))) {
		t.Error(got)
	}
}

// TestP12_6Answered writes to all that is answered: no other answer changes, neither one that was given already nor a later one.
func TestP12_6Answered(t *testing.T) {
	r := registry.New()
	set, text := strings.Clone("a"), strings.Clone(source)
	v, _, _ := r.Publish(set, 10, text)
	spoilVersions(v)
	if set != "a" || text != source {
		t.Fatalf("%s, %s", set, text)
	}
	publishes(t, r, "a", 20, source)
	publishes(t, r, "b", 30, priced(2))
	was := state(r)
	list, names := r.Versions("a"), r.Sets()
	one, _ := r.Lookup("a", 15)
	before := told(append(slices.Clone(list), one))
	for range 2 {
		spoilVersions(r.Versions("a")...)
		l := r.Sets()
		spoil(l...)
		for i := range l[:cap(l)] {
			l[:cap(l)][i] = "spoilt"
		}
		found, _ := r.Lookup("a", 15)
		spoilVersions(found)
		if is := state(r); is != was {
			t.Errorf("%s, not %s", is, was)
		}
	}
	if after := told(append(slices.Clone(list), one)); after != before || !slices.Equal(names, []string{"a", "b"}) {
		t.Errorf("%s, not %s; %q", after, before, names)
	}
	// What an answer tells is what was when it was given.
	publishes(t, r, "a", 40, source)
	retires(t, r, "b", 50, api.OK)
	if after := told(append(slices.Clone(list), one)); after != before {
		t.Errorf("%s, not %s", after, before)
	}
	if got := concludes(programOf(t, r, "a", 1)); got != concludes(compiled(t, source)) {
		t.Error(got)
	}
}
