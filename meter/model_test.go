package meter_test

import (
	"cmp"
	"fmt"
	"maps"
	"math/rand/v2"
	"regexp"
	"slices"
	"strconv"
	"testing"

	"exchequer/api"
	"exchequer/meter"
)

// platform is what a meter does, and its model.
type platform interface {
	Ingest(e meter.Event) (bool, api.Errno)
	Totals(account string, from, to int) ([]meter.Total, api.Errno)
	Events(account string, from, to int) []meter.Event
	Find(key string) (meter.Event, bool)
	Accounts() []string
	Len() int
	Repeats() int
}

// model does what the chapter's words say, one call at a time.
type model struct {
	there   []meter.Event
	repeats int
}

// copied is a model of the same events, which goes on by itself.
func (m *model) copied() *model { return &model{slices.Clone(m.there), m.repeats} }

// What P13.1 says of a key, and P12.1 of a name.
var (
	keyed = regexp.MustCompile(`\A[\x21-\x7E]{1,40}\z`)
	named = regexp.MustCompile(`\A[a-z][a-z0-9-]{0,29}\z`)
)

// isTo: may a number be one from 0 on, to another one?
func isTo(n, last int) bool { return 0 <= n && n <= last }

// checked is what P13.1 says of an event.
func checked(e meter.Event) api.Errno {
	if !keyed.MatchString(e.Key) || !named.MatchString(e.Account) || !named.MatchString(e.Meter) {
		return api.ErrName
	}
	if !isTo(e.Qty, 1<<40) || !isTo(e.At, api.MaxInstant) {
		return api.ErrRange
	}
	return api.OK
}

func (m *model) Ingest(e meter.Event) (bool, api.Errno) {
	if bad := checked(e); bad != api.OK {
		return false, bad
	}
	if known, there := m.Find(e.Key); there {
		if known != e {
			return false, api.ErrConflict
		}
		m.repeats++
		return true, api.OK
	}
	if len(m.there) == 5000 {
		return false, api.ErrMany
	}
	m.there = append(m.there, e)
	return false, api.OK
}

// asked is what P13.3 says of a time.
func asked(account string, from, to int) api.Errno {
	if !named.MatchString(account) {
		return api.ErrName
	}
	if !isTo(from, api.MaxInstant+1) || !isTo(to, api.MaxInstant+1) || to < from {
		return api.ErrRange
	}
	return api.OK
}

func (m *model) Totals(account string, from, to int) ([]meter.Total, api.Errno) {
	if e := asked(account, from, to); e != api.OK {
		return nil, e
	}
	var l []meter.Total
	for _, e := range m.Events(account, from, to) {
		i := slices.IndexFunc(l, func(t meter.Total) bool { return t.Meter == e.Meter })
		if i < 0 {
			i = len(l)
			l = append(l, meter.Total{Meter: e.Meter})
		}
		l[i].Qty += e.Qty
		l[i].Count++
	}
	slices.SortFunc(l, func(a, b meter.Total) int { return cmp.Compare(a.Meter, b.Meter) })
	return l, api.OK
}

func (m *model) Events(account string, from, to int) []meter.Event {
	if asked(account, from, to) != api.OK {
		return nil
	}
	var l []meter.Event
	for _, e := range m.there {
		if e.Account == account && e.At >= from && e.At < to {
			l = append(l, e)
		}
	}
	slices.SortFunc(l, func(a, b meter.Event) int { return cmp.Or(cmp.Compare(a.At, b.At), cmp.Compare(a.Key, b.Key)) })
	return l
}

func (m *model) Find(key string) (meter.Event, bool) {
	for _, e := range m.there {
		if e.Key == key {
			return e, true
		}
	}
	return meter.Event{}, false
}

func (m *model) Accounts() []string {
	names := map[string]int{}
	for _, e := range m.there {
		names[e.Account]++
	}
	return slices.Sorted(maps.Keys(names))
}

func (m *model) Len() int { return len(m.there) }

func (m *model) Repeats() int { return m.repeats }

// call is one call: the first letter of its name says which; Totals is S, as it sums up.
type call struct {
	name     byte
	event    meter.Event
	from, to int
}

// on is the call's whole answer, as a text, and its error.
func (c call) on(p platform) (string, api.Errno) {
	switch c.name {
	case 'I':
		known, e := p.Ingest(c.event)
		return fmt.Sprint(known, e), e
	case 'S':
		l, e := p.Totals(c.event.Account, c.from, c.to)
		return fmt.Sprint(l, e), e
	case 'E':
		return fmt.Sprint(p.Events(c.event.Account, c.from, c.to)), api.OK
	case 'F':
		return fmt.Sprint(p.Find(c.event.Key)), api.OK
	case 'A':
		return fmt.Sprintf("%q", p.Accounts()), api.OK
	case 'L':
		return strconv.Itoa(p.Len()), api.OK
	}
	return strconv.Itoa(p.Repeats()), api.OK
}

// Few of each, so that calls meet.
var (
	accounts = []string{"acme", "a", "a-1", "a1"}
	meters   = []string{"calls", "gb", "g-b", "gb2"}
)

// anyEvent is an event of so many keys; that of a key is nearly always the same.
func anyEvent(r *rand.Rand, keys int) meter.Event {
	n := r.IntN(keys)
	e := of(accounts[n%3], meters[n/3%4], "k"+strconv.Itoa(n*7%100)+"-"+strconv.Itoa(n), n%11, n*37%30)
	if r.IntN(8) == 0 {
		switch r.IntN(5) {
		case 0:
			e.Account = pick(r, accounts...)
		case 1:
			e.Meter = pick(r, meters...)
		case 2:
			e.Qty = pick(r, 0, 1, 1<<40)
		case 3:
			e.At = r.IntN(30)
		case 4:
			e.Key = pick(r, "k", "K", "0", "~", "!")
		}
	}
	if r.IntN(20) == 0 {
		switch r.IntN(5) {
		case 0:
			e.Key = pick(r, "", "a b", "\x7f", "é", "a\n")
		case 1:
			e.Account = pick(r, "", "A", "a_", "1", "none", "a\n")
		case 2:
			e.Meter = pick(r, "", "A", "a_", "1", "none", "a\n")
		case 3:
			e.Qty = pick(r, -1, 1<<40+1)
		case 4:
			e.At = pick(r, -1, api.MaxInstant, api.MaxInstant+1)
		}
	}
	return e
}

// anyCall is a call of any name, of so many keys.
func anyCall(r *rand.Rand, keys int) call {
	c := call{pick(r, []byte("IIIIISSEEFALR")...), anyEvent(r, keys), r.IntN(20), 0}
	c.to = c.from + r.IntN(20)
	switch r.IntN(30) {
	case 0:
		c.to = pick(r, api.MaxInstant, api.MaxInstant+1, api.MaxInstant+2)
	case 1:
		c.from = pick(r, -1, api.MaxInstant+1, 30)
	case 2:
		c.from, c.to = c.to, c.from
	}
	return c
}

// TestP13_2Model holds long rows of calls against a model that goes by the chapter's words; all that is told is held against it, too.
func TestP13_2Model(t *testing.T) {
	r := rand.New(rand.NewPCG(13, 2))
	seen := map[string]int{}
	for round := range 60 {
		keys := pick(r, 3, 20, 200)
		x, m := meter.New(), &model{}
		for done := range 400 {
			c := anyCall(r, keys)
			got, e := c.on(x)
			if want, bad := c.on(m); got != want || e != bad {
				t.Fatalf("%d, %d: %c %+v: %s, not %s", round, done, c.name, c, got, want)
			}
			seen[string(c.name)+strconv.Itoa(int(e))]++
			seen[string(c.name)+" "+got]++
			if c.name == 'I' || done%50 == 0 {
				if got, want := state(x), state(m); got != want {
					t.Fatalf("%d, %d: %c %+v: %s, not %s", round, done, c.name, c, got, want)
				}
			}
		}
	}
	for name, l := range map[string][]api.Errno{
		"I": {api.OK, api.ErrName, api.ErrRange, api.ErrConflict},
		"S": {api.OK, api.ErrName, api.ErrRange},
	} {
		for _, e := range l {
			if seen[name+strconv.Itoa(int(e))] < 20 {
				t.Errorf("too few of %s with error %d: %d", name, e, seen[name+strconv.Itoa(int(e))])
			}
		}
	}
	for _, answer := range []string{"I true 0", "I false 0", "F {   0 0} false", "S [] 0", "E []"} {
		if n := seen[answer]; n < 50 || n == seen[answer[:1]+"0"] {
			t.Errorf("too few of %q: %d", answer, n)
		}
	}
}
