package fs_test

import (
	"maps"
	"math/rand/v2"
	"slices"
	"strconv"
	"strings"
	"testing"

	"exchequer/api"
	"exchequer/fs"
)

// text is a file of the model: what is durable and what is not, as texts.
type text struct{ synced, rest string }

// model says anew, in the plainest way, what a file system answers.
type model struct {
	files map[string]text
	room  int
	steps int
	armed int
	down  bool
}

func (m *model) used() int {
	n := 0
	for _, t := range m.files {
		n += len(t.synced + t.rest)
	}
	return n
}

// write does a write whose own error is e.
func (m *model) write(e api.Errno, do func()) api.Errno {
	if m.down {
		return api.ErrDown
	}
	if e != api.OK {
		return e
	}
	m.armed--
	if m.armed == 0 {
		m.down = true
		return api.ErrDown
	}
	m.steps++
	do()
	return api.OK
}

// pick is the first error whose condition holds.
func pick(l ...any) api.Errno {
	for i := 0; i < len(l); i += 2 {
		if l[i].(bool) {
			return l[i+1].(api.Errno)
		}
	}
	return api.OK
}

func (m *model) crash(keep map[string]int) {
	for name, t := range maps.Clone(m.files) {
		n := min(max(keep[name], 0), len(t.rest))
		m.files[name] = text{synced: t.synced + t.rest[:n]}
	}
	m.down, m.armed = false, 0
}

// run holds a file system against the model through a row of calls.
type run struct {
	t *testing.T
	r *rand.Rand
	f *fs.FS
	m *model
}

var someNames = []string{"a", "b", "b/c", "c", "c/d.e", "A", "", "/a"}

func (x *run) name() string { return someNames[x.r.IntN(len(someNames))] }

// write does one write on both; it tells the call, and both answers.
func (x *run) write() (string, api.Errno, api.Errno) {
	m, name, to, n := x.m, x.name(), x.name(), x.r.IntN(12)-1
	had, there := m.files[name]
	none := pick(!there, api.ErrNone)
	b := []byte("0123456789ab"[:n+1])
	whole := had.synced + had.rest
	set := func(t text) func() { return func() { m.files[name] = t } }
	switch x.r.IntN(9) {
	case 0, 1:
		e := pick(strings.ToLower(name) != name || strings.Trim(name, "/") != name || name == "", api.ErrName, there, api.ErrThere)
		return "Create " + name, x.f.Create(name), m.write(e, set(text{}))
	case 2, 3:
		e := pick(!there, api.ErrNone, m.used()+len(b) > m.room, api.ErrFull)
		return "Append " + name + " " + string(b), x.f.Append(name, b), m.write(e, set(text{had.synced, had.rest + string(b)}))
	case 4, 5:
		return "Sync " + name, x.f.Sync(name), m.write(none, set(text{synced: whole}))
	case 6:
		e := pick(!there, api.ErrNone, n < 0 || n > len(whole), api.ErrRange)
		return "Truncate " + name + " " + strconv.Itoa(n), x.f.Truncate(name, n), m.write(e, func() {
			at := min(n, len(had.synced))
			m.files[name] = text{whole[:at], whole[at:n]}
		})
	case 7:
		e := pick(!there, api.ErrNone, !fs.Valid(to), api.ErrName)
		return "Rename " + name + " " + to, x.f.Rename(name, to), m.write(e, func() {
			delete(m.files, name)
			m.files[to] = had
		})
	}
	return "Remove " + name, x.f.Remove(name), m.write(none, func() { delete(m.files, name) })
}

// same tells whether both stand alike.
func (x *run) same(f *fs.FS, what string) {
	m := x.m
	if f.Used() != m.used() || f.Steps() != m.steps || f.Down() != m.down || f.Used() > f.Room() {
		x.t.Fatalf("%s: used %d, steps %d, down %v; not %d, %d, %v", what, f.Used(), f.Steps(), f.Down(), m.used(), m.steps, m.down)
	}
	if names := slices.Sorted(maps.Keys(m.files)); !slices.Equal(f.Names(""), names) {
		x.t.Fatalf("%s: names %v, not %v", what, f.Names(""), names)
	}
	for name, t := range m.files {
		if b, e := f.Read(name); e != api.OK || string(b) != t.synced+t.rest {
			x.t.Fatalf("%s: %s: %q, %d; not %q", what, name, b, e, t.synced+t.rest)
		}
	}
}

// crash crashes both alike, and holds what is there against P1.7.
func (x *run) crash() {
	keep := map[string]int{}
	for _, name := range someNames {
		keep[name] = x.r.IntN(16) - 2
	}
	ahead, was := maps.Clone(x.m.files), x.f.Copy()
	x.f.Crash(func(name string, n int) int {
		if n != len(ahead[name].rest) || n == 0 {
			x.t.Errorf("P1.5: asked for %s with %d", name, n)
		}
		return keep[name]
	})
	x.m.crash(keep)
	x.same(x.f, "P1.5")
	for name, t := range ahead {
		b, e := x.f.Read(name)
		if whole := t.synced + t.rest; e != api.OK || !strings.HasPrefix(whole, string(b)) || !strings.HasPrefix(string(b), t.synced) {
			x.t.Fatalf("P1.7: %s: %q of %q, %q", name, b, t.synced, t.rest)
		}
		if b, _ := was.Read(name); string(b) != t.synced+t.rest {
			x.t.Fatalf("P1.6: %s of the copy: %q", name, b)
		}
	}
	x.f.Crash(nil)
	x.same(x.f, "P1.7, a crash behind a crash")
}

// TestP1_2ToP1_8AgainstAModel does rows of calls, whose chances are fixed ahead, and holds each answer and each state against the model.
func TestP1_2ToP1_8AgainstAModel(t *testing.T) {
	for seed := range uint64(300) {
		room := int(seed % 50)
		x := &run{t: t, r: rand.New(rand.NewPCG(seed, 1)), f: fs.New(room), m: &model{files: map[string]text{}, room: room}}
		for range 200 {
			switch x.r.IntN(30) {
			case 0:
				x.crash()
			case 1:
				n := x.r.IntN(12) - 1
				x.f.Arm(n)
				x.m.armed = max(n, 0)
			case 2:
				// A copy that goes on must answer as the first one would have.
				x.f = x.f.Copy()
			}
			ahead := x.f.Copy()
			what, got, asked := x.write()
			if got != asked {
				t.Fatalf("seed %d, %s: %d, not %d", seed, what, got, asked)
			}
			x.same(x.f, what)
			if got != api.OK {
				unchanged(t, ahead, x.f, what)
			}
		}
		x.crash()
	}
}

// unchanged tells that two differ in nothing but that one may be down.
func unchanged(t *testing.T, a, b *fs.FS, what string) {
	t.Helper()
	if !slices.Equal(a.Names(""), b.Names("")) || a.Used() != b.Used() || a.Steps() != b.Steps() {
		t.Fatalf("P1.8: %s changed something", what)
	}
	for _, keep := range []func(string, int) int{all, nil} {
		c, d := a.Copy(), b.Copy()
		c.Crash(keep)
		d.Crash(keep)
		for _, name := range c.Names("") {
			g, _ := c.Read(name)
			h, _ := d.Read(name)
			if string(g) != string(h) {
				t.Fatalf("P1.8: %s changed %s", what, name)
			}
		}
	}
}

func TestP1_7SyncedStays(t *testing.T) {
	for keep := -1; keep <= 4; keep++ {
		f := fs.New(100)
		put(t, f, "a", "synced", "rest")
		put(t, f, "gone", "synced", "rest")
		put(t, f, "over", "synced", "rest")
		put(t, f, "cut", "synced", "rest")
		f.Rename("a", "b")
		f.Remove("gone")
		f.Create("n")
		f.Rename("n", "over")
		f.Truncate("cut", 3)
		for range 3 {
			f.Crash(func(string, int) int { return keep })
			holds(t, f, "b", "syncedrest"[:6+max(keep, 0)])
			holds(t, f, "over", "")
			holds(t, f, "cut", "syn")
			gone(t, f, "a")
			gone(t, f, "gone")
		}
	}
}

func TestP1_8ErrorsChangeNothing(t *testing.T) {
	f := fs.New(12)
	put(t, f, "a", "abc", "de")
	put(t, f, "b", "xy", "z")
	for i, do := range []func() api.Errno{
		func() api.Errno { return f.Create("a") },
		func() api.Errno { return f.Create("a/") },
		func() api.Errno { return f.Append("a", []byte("12345")) },
		func() api.Errno { return f.Append("c", []byte("1")) },
		func() api.Errno { return f.Truncate("a", 6) },
		func() api.Errno { return f.Truncate("a", -1) },
		func() api.Errno { return f.Rename("a", "b/") },
		func() api.Errno { return f.Rename("c", "b") },
		func() api.Errno { return f.Sync("c") },
		func() api.Errno { return f.Remove("c") },
	} {
		ahead := f.Copy()
		if do() == api.OK {
			t.Errorf("%d: no error", i)
		}
		unchanged(t, ahead, f, strconv.Itoa(i))
	}
	holds(t, f, "a", "abcde")
	holds(t, f, "b", "xyz")
}
