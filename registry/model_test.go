package registry_test

import (
	"fmt"
	"maps"
	"math/rand/v2"
	"regexp"
	"slices"
	"strconv"
	"testing"

	"exchequer/api"
	"exchequer/dsl"
	"exchequer/registry"
	"exchequer/vm"
)

// platform is what a registry does, and its model.
type platform interface {
	Publish(set string, from int, source string) (registry.Version, int, api.Errno)
	Retire(set string, at int) api.Errno
	Lookup(set string, at int) (registry.Version, api.Errno)
	Program(set string, number int) (*vm.Program, api.Errno)
	Versions(set string) []registry.Version
	Sets() []string
	Compiled() int
}

// model does what the chapter's words say, one call at a time.
type model struct {
	sets  map[string][]registry.Version
	asked map[string]bool
}

// modelled is an empty model.
func modelled() *model { return &model{map[string][]registry.Version{}, map[string]bool{}} }

// copied is a model of the same sets, which goes on by itself.
func (m *model) copied() *model {
	c := &model{maps.Clone(m.sets), maps.Clone(m.asked)}
	for set, l := range c.sets {
		c.sets[set] = slices.Clone(l)
	}
	return c
}

// named is what P12.1 says of a name.
var named = regexp.MustCompile(`\A[a-z][a-z0-9-]{0,29}\z`)

// isInstant: may it be one?
func isInstant(at int) bool { return 0 <= at && at <= api.MaxInstant }

func (m *model) Publish(set string, from int, source string) (registry.Version, int, api.Errno) {
	var none registry.Version
	if !named.MatchString(set) {
		return none, 0, api.ErrName
	}
	if !isInstant(from) {
		return none, 0, api.ErrRange
	}
	x, line, e := dsl.Parse(source)
	if e != api.OK {
		return none, line, e
	}
	if _, item, e := vm.Compile(x); e != api.OK {
		return none, item, e
	}
	l, there := m.sets[set]
	if !there && len(m.sets) == api.MaxSets || len(l) == api.MaxVersions {
		return none, 0, api.ErrMany
	}
	if there {
		last := l[len(l)-1]
		retired := last.Until != 0
		if from <= last.From || retired && from < last.Until {
			return none, 0, api.ErrStale
		}
		if !retired {
			l[len(l)-1].Until = from
		}
	}
	v := registry.Version{Set: set, Number: 1 + len(l), From: from, Source: source}
	m.sets[set] = append(l, v)
	return v, 0, api.OK
}

func (m *model) Retire(set string, at int) api.Errno {
	if !named.MatchString(set) {
		return api.ErrName
	}
	if !isInstant(at) {
		return api.ErrRange
	}
	l, there := m.sets[set]
	if !there || l[len(l)-1].Until != 0 {
		return api.ErrNone
	}
	if at <= l[len(l)-1].From {
		return api.ErrStale
	}
	l[len(l)-1].Until = at
	return api.OK
}

func (m *model) Lookup(set string, at int) (registry.Version, api.Errno) {
	if !named.MatchString(set) {
		return registry.Version{}, api.ErrName
	}
	if !isInstant(at) {
		return registry.Version{}, api.ErrRange
	}
	for _, v := range m.sets[set] {
		if v.From <= at && (at < v.Until || v.Until == 0) {
			return v, api.OK
		}
	}
	return registry.Version{}, api.ErrNone
}

func (m *model) Program(set string, number int) (*vm.Program, api.Errno) {
	if !named.MatchString(set) {
		return nil, api.ErrName
	}
	for _, v := range m.sets[set] {
		if v.Number == number {
			m.asked[set+" "+strconv.Itoa(number)] = true
			x, _, _ := dsl.Parse(v.Source)
			p, _, e := vm.Compile(x)
			return p, e
		}
	}
	return nil, api.ErrNone
}

func (m *model) Versions(set string) []registry.Version { return slices.Clone(m.sets[set]) }

func (m *model) Sets() []string { return slices.Sorted(maps.Keys(m.sets)) }

func (m *model) Compiled() int { return len(m.asked) }

// call is one call: the first letter of its name says which.
type call struct {
	name   byte
	set    string
	n      int
	source string
}

// on is the call's whole answer, as a text, and its error.
func (c call) on(p platform) (string, api.Errno) {
	switch c.name {
	case 'P':
		v, line, e := p.Publish(c.set, c.n, c.source)
		return fmt.Sprint(v, line, e), e
	case 'R':
		e := p.Retire(c.set, c.n)
		return fmt.Sprint(e), e
	case 'L':
		v, e := p.Lookup(c.set, c.n)
		return fmt.Sprint(v, e), e
	case 'p':
		program, e := p.Program(c.set, c.n)
		if e != api.OK {
			return fmt.Sprint(program == nil, e), e
		}
		return concludes(program), e
	case 'V':
		return told(p.Versions(c.set)), api.OK
	case 'S':
		return fmt.Sprintf("%q", p.Sets()), api.OK
	}
	return strconv.Itoa(p.Compiled()), api.OK
}

// sources are some that are taken, and some that are not.
var sources = []string{"", source, priced(2), "\n# nothing\n", priced(3), "x", "output p : int ;\n?", "output p : int ; rule r 1 : then p = p ;", source + "rule s 2 : then p = q ;"}

// anyCall is a call of any name, of a few sets and instants, which go on slowly as the row of calls does.
func anyCall(r *rand.Rand, sets []string, done int) call {
	c := call{pick(r, []byte("PPPPRLLppVSC")...), pick(r, sets...), 0, sources[r.IntN(5)]}
	switch {
	case r.IntN(20) == 0:
		c.source = pick(r, sources...)
	case r.IntN(20) == 0:
		c.set = pick(r, "", "A", "a_", "1", "none", "a\n")
	}
	c.n = max(0, done/4+r.IntN(12)-6)
	switch {
	case c.name == 'p':
		c.n = r.IntN(2 + done/(2*len(sets)))
	case r.IntN(30) == 0:
		c.n = pick(r, -1, 0, api.MaxInstant+1, -api.MaxInstant)
	}
	return c
}

// TestP12_2Model holds long rows of calls against a model that goes by the chapter's words; all that is told is held against it, too.
func TestP12_2Model(t *testing.T) {
	r := rand.New(rand.NewPCG(12, 2))
	var many []string
	for i := range 25 {
		many = append(many, "s-"+strconv.Itoa(i))
	}
	seen := map[string]int{}
	for round := range 60 {
		sets := pick(r, []string{"a"}, []string{"a", "b", "a-1"}, many)
		x, m := registry.New(), modelled()
		for done := range 500 {
			c := anyCall(r, sets, done)
			got, e := c.on(x)
			if want, bad := c.on(m); got != want || e != bad {
				t.Fatalf("%d, %d: %c %+v: %s, not %s", round, done, c.name, c, got, want)
			}
			seen[string(c.name)+strconv.Itoa(int(e))]++
			if c.name == 'P' || c.name == 'R' || done%50 == 0 {
				if got, want := state(x), state(m); got != want {
					t.Fatalf("%d, %d: %c %+v: %s, not %s", round, done, c.name, c, got, want)
				}
			}
		}
	}
	for name, l := range map[string][]api.Errno{
		"P": {api.OK, api.ErrName, api.ErrRange, api.ErrSyntax, api.ErrCycle, api.ErrUnknown, api.ErrMany, api.ErrStale},
		"R": {api.OK, api.ErrName, api.ErrRange, api.ErrNone, api.ErrStale},
		"L": {api.OK, api.ErrName, api.ErrRange, api.ErrNone},
		"p": {api.OK, api.ErrName, api.ErrNone},
	} {
		for _, e := range l {
			if seen[name+strconv.Itoa(int(e))] < 10 {
				t.Errorf("too few of %s with error %d: %v", name, e, seen)
			}
		}
	}
}
