package vm_test

import (
	"fmt"
	"math/rand/v2"
	"reflect"
	"slices"
	"strings"
	"sync"
	"testing"
	"unsafe"

	"exchequer/api"
	"exchequer/dsl"
	"exchequer/vm"
)

// twin is something like another one in other memory, with room behind its lists that says something.
func twin[T any](x T) T {
	y := reflect.New(reflect.TypeFor[T]()).Elem()
	copyTo(y, reflect.ValueOf(x))
	return y.Interface().(T)
}

// copyTo makes one thing like another.
func copyTo(y, x reflect.Value) {
	switch x.Kind() {
	case reflect.String:
		y.SetString(strings.Clone(x.String()))
	case reflect.Struct:
		for i := range x.NumField() {
			copyTo(y.Field(i), x.Field(i))
		}
	case reflect.Slice:
		y.Set(reflect.MakeSlice(x.Type(), x.Len()+1, x.Len()+1))
		for i := range x.Len() {
			copyTo(y.Index(i), x.Index(i))
		}
		spoil(y.Index(x.Len()), func(string) string { return strings.Clone("spare") })
		y.SetLen(x.Len())
	default:
		y.Set(x)
	}
}

// spoil writes to all of something, the room behind its lists included.
func spoil(x reflect.Value, text func(string) string) {
	switch x.Kind() {
	case reflect.String:
		x.SetString(text(x.String()))
	case reflect.Struct:
		for i := range x.NumField() {
			spoil(x.Field(i), text)
		}
	case reflect.Slice:
		x = x.Slice3(0, x.Cap(), x.Cap())
		for i := range x.Len() {
			spoil(x.Index(i), text)
		}
	case reflect.Int:
		x.SetInt(x.Int() ^ 77)
	}
}

// spoilAll writes to all memory of something that was made by twin, or that should be new: to the bytes of its texts, too.
func spoilAll[T any](x *T) {
	spoil(reflect.ValueOf(x).Elem(), func(s string) string {
		for i := range len(s) {
			unsafe.Slice(unsafe.StringData(s), len(s))[i] ^= 0x15
		}
		return "spoilt"
	})
}

// image is all that something has, the room behind its lists included.
func image[T any](x T) string {
	var b strings.Builder
	draw(&b, reflect.ValueOf(x))
	return b.String()
}

// draw appends an image.
func draw(b *strings.Builder, x reflect.Value) {
	switch x.Kind() {
	case reflect.Struct:
		for i := range x.NumField() {
			draw(b, x.Field(i))
		}
	case reflect.Slice:
		fmt.Fprintf(b, "[%d ", x.Len())
		for i := range x.Cap() {
			draw(b, x.Slice3(0, x.Cap(), x.Cap()).Index(i))
		}
		b.WriteString("] ")
	default:
		fmt.Fprintf(b, "%#v ", x.Interface())
	}
}

// TestP11_3Compile compiles theories, which are as they were then, and spoils them: no program hangs on them.
func TestP11_3Compile(t *testing.T) {
	r := rand.New(rand.NewPCG(11, 3))
	for i := range 2000 {
		x := anyTheory(r)
		facts := anyFacts(r, x, false)
		if i%5 == 0 {
			x.Rules = append(x.Rules, dsl.Rule{Name: "r", Target: pick(r, x.Decls...).Name, Then: dsl.Expr{Op: 1 + r.IntN(20)}})
		}
		y := twin(x)
		was := image(y)
		p, item, e := vm.Compile(y)
		if q, at, bad := vm.Compile(y); image(y) != was || (p == nil) != (q == nil) || item != at || e != bad {
			t.Fatalf("%s: %s, not %s", source(x), image(y), was)
		}
		spoilAll(&y)
		if p == nil {
			continue
		}
		if got := answer(t, p, facts); got != answer(t, program(t, x), facts) {
			t.Errorf("%s%s: %s", source(x), told(facts), got)
		}
		if image([][]dsl.Decl{p.Inputs(), p.Outputs()}) != image([][]dsl.Decl{program(t, x).Inputs(), program(t, x).Outputs()}) {
			t.Errorf("%s: %v, %v", source(x), p.Inputs(), p.Outputs())
		}
	}
}

// TestP11_3Run runs programs over facts, which are as they were then, and spoils these and what is concluded: no answer hangs on them, or on another one.
func TestP11_3Run(t *testing.T) {
	r := rand.New(rand.NewPCG(3, 11))
	for range 3000 {
		x := anyTheory(r)
		p := program(t, x)
		facts := twin(anyFacts(r, x, true))
		was := image(facts)
		one, n, e := p.Run(facts)
		other, m, bad := p.Run(facts)
		if image(facts) != was || n != m || e != bad || told(one) != told(other) {
			t.Fatalf("%s%s: %s, not %s", source(x), told(facts), image(facts), was)
		}
		first := strings.Clone(told(one))
		again := twin(facts)
		if spoilAll(&facts); told(one) != first {
			t.Errorf("%s: %s, not %s", source(x), told(one), first)
		}
		if spoilAll(&one); told(other) != first {
			t.Errorf("%s: %s, not %s", source(x), told(other), first)
		}
		if last, _, _ := p.Run(again); told(last) != first {
			t.Errorf("%s: %s, not %s", source(x), told(last), first)
		}
	}
}

// TestP11_3Lists writes to answered declarations: no other answer changes.
func TestP11_3Lists(t *testing.T) {
	r := rand.New(rand.NewPCG(33, 11))
	for range 1000 {
		x := anyTheory(r)
		p, facts := program(t, x), anyFacts(r, x, false)
		want := answer(t, p, facts)
		in, out := p.Inputs(), p.Outputs()
		was := strings.Clone(declared(in) + ";" + declared(out))
		for _, l := range [][]dsl.Decl{p.Inputs(), p.Outputs()} {
			spoilAll(&l)
		}
		if got := declared(in) + ";" + declared(out); got != was || declared(p.Inputs())+";"+declared(p.Outputs()) != was {
			t.Errorf("%s: %s, not %s", source(x), got, was)
		}
		if got := answer(t, p, facts); got != want {
			t.Errorf("%s: %s, not %s", source(x), got, want)
		}
	}
}

// TestP11_3Facts spoils the texts of which facts are made.
func TestP11_3Facts(t *testing.T) {
	for _, of := range []func(name, s string) vm.Fact{
		func(name, _ string) vm.Fact { return vm.Int(name, 5) },
		func(name, _ string) vm.Fact { return vm.Bool(name, true) },
		vm.Text,
	} {
		l := twin([]string{"name", "text"})
		f, want := of(l[0], l[1]), of("name", "text")
		if spoilAll(&l); f != want {
			t.Errorf("%+v, not %+v", f, want)
		}
	}
}

// TestP11_3Several runs a program in several goroutines at once, which answers each of them as it answers one.
func TestP11_3Several(t *testing.T) {
	r := rand.New(rand.NewPCG(333, 11))
	for range 60 {
		x := anyTheory(r)
		p := program(t, x)
		var facts [][]vm.Fact
		var want []string
		for range 12 {
			facts = append(facts, anyFacts(r, x, true))
			want = append(want, answer(t, p, facts[len(facts)-1]))
		}
		in, out := p.Inputs(), p.Outputs()
		var all sync.WaitGroup
		for range 8 {
			order := r.Perm(len(facts))
			all.Go(func() {
				for _, i := range order {
					if got := answer(t, p, facts[i]); got != want[i] {
						t.Errorf("%s%s: %s, not %s", source(x), told(facts[i]), got, want[i])
					}
					if !slices.Equal(p.Inputs(), in) || !slices.Equal(p.Outputs(), out) {
						t.Errorf("%s: %v, %v", source(x), p.Inputs(), p.Outputs())
					}
				}
			})
		}
		all.Wait()
	}
	p := compiled(t, sample)
	var all sync.WaitGroup
	for i := range 16 {
		all.Go(func() {
			for n := range 200 {
				q := i*1000 + n + 4
				if l, _, e := p.Run([]vm.Fact{vm.Int("q", q)}); e != api.OK || len(l) != 2 || l[0] != vm.Int("p", 2*q) || l[1] != vm.Text("v", "x") {
					t.Errorf("%d: %v, %d", q, l, e)
				}
			}
		})
	}
	all.Wait()
}

// TestP11_3Alike compiles and runs in several goroutines at once, and again and again: what is answered hangs on what is handed in alone.
func TestP11_3Alike(t *testing.T) {
	r := rand.New(rand.NewPCG(3333, 11))
	var asked []dsl.Theory
	var facts [][]vm.Fact
	var want []string
	for i := range 150 {
		asked = append(asked, anyTheory(r))
		facts = append(facts, anyFacts(r, asked[i], true))
		want = append(want, answer(t, program(t, asked[i]), facts[i]))
	}
	var all sync.WaitGroup
	for range 4 {
		order := r.Perm(len(asked))
		all.Go(func() {
			for _, i := range order {
				p, _, e := vm.Compile(asked[i])
				if e != api.OK {
					t.Errorf("%s: %d", source(asked[i]), e)
					continue
				}
				if got := answer(t, p, facts[i]); got != want[i] {
					t.Errorf("%s%s: %s, not %s", source(asked[i]), told(facts[i]), got, want[i])
				}
			}
		})
	}
	all.Wait()
}
