package table_test

import (
	"iter"
	"math"
	"slices"
	"strconv"
	"strings"
	"testing"

	"exchequer/api"
	"exchequer/table"
)

// told is the pairs of a sequence as one text.
func told[K, V any](l iter.Seq2[K, V], key func(K) string, value func(V) string) string {
	var s []string
	for k, v := range l {
		s = append(s, key(k)+" "+value(v))
	}
	return strings.Join(s, ", ")
}

// same is a text itself.
func same(s string) string { return s }

// pairs is told of texts and numbers.
func pairs(l iter.Seq2[string, int]) string { return told(l, same, strconv.Itoa) }

// text holds a text against the one that is asked for.
func text(t *testing.T, what, got, asked string) {
	t.Helper()
	if got != asked {
		t.Errorf("%s: %q, not %q", what, got, asked)
	}
}

// number holds a number against the one that is asked for.
func number(t *testing.T, what string, got, asked int) {
	t.Helper()
	if got != asked {
		t.Errorf("%s: %d, not %d", what, got, asked)
	}
}

// has tells that a key has this value; reader is a table or a snapshot.
func has[K, V comparable](t *testing.T, reader interface{ Get(K) (V, bool) }, k K, asked V) {
	t.Helper()
	if v, is := reader.Get(k); v != asked || !is {
		t.Errorf("Get(%v): %v, %v, not %v", k, v, is, asked)
	}
}

// hasNot tells that a key has no value.
func hasNot[K, V comparable](t *testing.T, reader interface{ Get(K) (V, bool) }, k K) {
	t.Helper()
	var zero V
	if v, is := reader.Get(k); v != zero || is {
		t.Errorf("Get(%v): %v, %v, but it has none", k, v, is)
	}
}

// deleted deletes a key that had a value, or had none.
func deleted[K, V comparable](t *testing.T, x interface{ Delete(K) bool }, k K, asked bool) {
	t.Helper()
	if got := x.Delete(k); got != asked {
		t.Errorf("Delete(%v): %v, not %v", k, got, asked)
	}
}

// of makes a table of the keys, each one byte, with their places as values.
func of(keys string) *table.Table[string, int] {
	x := table.New[string, int]()
	for i := range len(keys) {
		x.Put(keys[i:i+1], i)
	}
	return x
}

func TestP3_1Empty(t *testing.T) {
	x := table.New[string, int]()
	if x == nil {
		t.Fatal("New: nil")
	}
	hasNot[string, int](t, x, "")
	hasNot[string, int](t, x, "a")
	number(t, "Len", x.Len(), 0)
	number(t, "Version", x.Version(), 0)
	text(t, "All", pairs(x.All()), "")
	text(t, "Range", pairs(x.Range("", "z")), "")
	deleted[string, int](t, x, "a", false)
	number(t, "Len behind a Delete", x.Len(), 0)
	number(t, "Version behind a Delete", x.Version(), 1)
}

func TestP3_1PutTwice(t *testing.T) {
	x := table.New[string, int]()
	x.Put("a", 1)
	has(t, x, "a", 1)
	x.Put("a", 2)
	has(t, x, "a", 2)
	number(t, "Len", x.Len(), 1)
	number(t, "Version", x.Version(), 2)
	x.Put("a", 2)
	number(t, "Len, the same again", x.Len(), 1)
	number(t, "Version, the same again", x.Version(), 3)
	text(t, "All", pairs(x.All()), "a 2")
	// A key that is put is not what tells a value: neither of these is as a key that has none.
	x.Put("", 0)
	has(t, x, "", 0)
	number(t, "Len", x.Len(), 2)
	text(t, "All", pairs(x.All()), " 0, a 2")
}

func TestP3_1Delete(t *testing.T) {
	x := of("cabed")
	deleted[string, int](t, x, "f", false)
	deleted[string, int](t, x, "", false)
	deleted[string, int](t, x, "bb", false)
	number(t, "Len", x.Len(), 5)
	number(t, "Version", x.Version(), 8)
	for i, k := range []string{"c", "a", "e", "b", "d"} {
		has(t, x, k, strings.Index("cabed", k))
		deleted[string, int](t, x, k, true)
		hasNot[string, int](t, x, k)
		deleted[string, int](t, x, k, false)
		number(t, "Len", x.Len(), 4-i)
		number(t, "Version", x.Version(), 10+2*i)
	}
	text(t, "All", pairs(x.All()), "")
	x.Put("c", 7)
	has(t, x, "c", 7)
	text(t, "All, put again", pairs(x.All()), "c 7")
	number(t, "Version", x.Version(), 19)
}

func TestP3_1Kinds(t *testing.T) {
	numbers := table.New[int, string]()
	for _, k := range []int{5, math.MaxInt, -1, 0, math.MinInt, 1} {
		numbers.Put(k, "x")
	}
	text(t, "ints", told(numbers.All(), strconv.Itoa, same),
		"-9223372036854775808 x, -1 x, 0 x, 1 x, 5 x, 9223372036854775807 x")
	text(t, "ints from the least", told(numbers.Range(math.MinInt, 0), strconv.Itoa, same), "-9223372036854775808 x, -1 x")
	text(t, "ints to the greatest", told(numbers.Range(5, math.MaxInt), strconv.Itoa, same), "5 x")

	bytes := table.New[string, int]()
	for i, k := range []string{"b", "a\x00", "é", "", "\xff", "ab", "\x00", "a", "B"} {
		bytes.Put(k, i)
	}
	text(t, "texts by bytes", told(bytes.All(), strconv.Quote, strconv.Itoa),
		`"" 3, "\x00" 6, "B" 8, "a" 7, "a\x00" 1, "ab" 5, "b" 0, "é" 2, "\xff" 4`)

	floats := table.New[float64, int]()
	for i, k := range []float64{0.5, math.Inf(1), math.Copysign(0, -1), -2, math.Inf(-1), 0} {
		floats.Put(k, i)
	}
	number(t, "floats, one zero", floats.Len(), 5)
	has(t, floats, 0, 5)
	has(t, floats, math.Copysign(0, -1), 5)
	var order []float64
	for k := range floats.All() {
		order = append(order, k)
	}
	if !slices.Equal(order, []float64{math.Inf(-1), -2, 0, 0.5, math.Inf(1)}) {
		t.Errorf("floats: %v", order)
	}

	type small uint8
	smalls := table.New[small, error]()
	smalls.Put(255, nil)
	smalls.Put(0, nil)
	if v, is := smalls.Get(255); v != nil || !is || smalls.Len() != 2 {
		t.Errorf("a named kind: %v, %v", v, is)
	}
}

// TestP3_1Many holds as many rows as a table may have, in the order that is the worst for a tree that is not balanced.
func TestP3_1Many(t *testing.T) {
	x := table.New[int, int]()
	for i := range api.MaxTable {
		x.Put(i, -i)
	}
	number(t, "Len", x.Len(), api.MaxTable)
	number(t, "Version", x.Version(), api.MaxTable)
	next := 0
	for k, v := range x.All() {
		if k != next || v != -k {
			t.Fatalf("All: %d %d, not %d", k, v, next)
		}
		next++
	}
	number(t, "All", next, api.MaxTable)
	for i := api.MaxTable - 1; i >= 0; i -= 2 {
		deleted[int, int](t, x, i, true)
	}
	number(t, "Len", x.Len(), api.MaxTable/2)
	has(t, x, 1000, -1000)
	hasNot[int, int](t, x, 1001)
	text(t, "Range", told(x.Range(997, 1003), strconv.Itoa, strconv.Itoa), "998 -998, 1000 -1000, 1002 -1002")
}

func TestP3_2Bounds(t *testing.T) {
	x := of("bdfh")
	rows := []struct{ from, to, asked string }{
		{"b", "h", "b 0, d 1, f 2"},
		{"b", "hh", "b 0, d 1, f 2, h 3"},
		{"a", "z", "b 0, d 1, f 2, h 3"},
		{"", "b", ""},
		{"", "ba", "b 0"},
		{"h", "z", "h 3"},
		{"ha", "z", ""},
		{"c", "g", "d 1, f 2"},
		{"d", "f", "d 1"},
		{"d", "e", "d 1"},
		{"c", "d", ""},
		{"e", "ee", ""},
		{"d", "d", ""},
		{"e", "e", ""},
		{"f", "d", ""},
		{"z", "a", ""},
		{"z", "", ""},
		{"", "", ""},
	}
	s := x.Snapshot()
	for _, row := range rows {
		text(t, "Range("+row.from+", "+row.to+")", pairs(x.Range(row.from, row.to)), row.asked)
		text(t, "Range("+row.from+", "+row.to+") of a snapshot", pairs(s.Range(row.from, row.to)), row.asked)
	}
	text(t, "All", pairs(x.All()), "b 0, d 1, f 2, h 3")
}

// front is the first n pairs of a sequence, which is left behind them.
func front(l iter.Seq2[string, int], n int) string {
	s := ""
	if n == 0 {
		return s
	}
	for k, v := range l {
		s += k + strconv.Itoa(v)
		n--
		if n == 0 {
			break
		}
	}
	return s
}

func TestP3_2LeaveEarly(t *testing.T) {
	x := of("abcdefghijklmno")
	s := x.Snapshot()
	all := "a0b1c2d3e4f5g6h7i8j9k10l11m12n13o14"
	part := all[strings.Index(all, "c") : strings.Index(all, "m")+3]
	// Each sequence is gone over again and again, by ever more pairs; one that is left may not hand on any more.
	for n := range 20 {
		for i, l := range []iter.Seq2[string, int]{x.All(), s.All()} {
			for range 2 {
				text(t, "All "+strconv.Itoa(i)+" of "+strconv.Itoa(n), front(l, n), all[:cutAt(all, n)])
			}
		}
		for i, l := range []iter.Seq2[string, int]{x.Range("c", "n"), s.Range("c", "n")} {
			for range 2 {
				text(t, "Range "+strconv.Itoa(i)+" of "+strconv.Itoa(n), front(l, n), part[:cutAt(part, n)])
			}
		}
	}
	number(t, "Version", x.Version(), 15)
	x.Put("z", 1)
	number(t, "Len behind a Put", x.Len(), 16)
}

// cutAt is the place behind n pairs, each of a letter and digits.
func cutAt(s string, n int) int {
	for i := range len(s) {
		if s[i] >= 'a' {
			if n == 0 {
				return i
			}
			n--
		}
	}
	return len(s)
}

func TestP3_2Again(t *testing.T) {
	x := of("ab")
	all, part := x.All(), x.Range("b", "d")
	text(t, "All", pairs(all), "a 0, b 1")
	text(t, "All again", pairs(all), "a 0, b 1")
	x.Put("c", 2)
	x.Delete("a")
	// A going over is of the table as it is when it begins, not when the sequence was asked for.
	text(t, "All, written to", pairs(all), "b 1, c 2")
	text(t, "Range, written to", pairs(part), "b 1, c 2")
	x.Delete("b")
	x.Delete("c")
	text(t, "All, emptied", pairs(all), "")
	text(t, "Range, emptied", pairs(part), "")
}

func TestP3_2Meanwhile(t *testing.T) {
	writes := map[string]func(x *table.Table[string, int], k string){
		"delete it":     func(x *table.Table[string, int], k string) { x.Delete(k) },
		"put it":        func(x *table.Table[string, int], k string) { x.Put(k, 99) },
		"put behind":    func(x *table.Table[string, int], k string) { x.Put(k+"x", 99) },
		"put ahead":     func(x *table.Table[string, int], k string) { x.Put("A"+k, 99) },
		"delete others": func(x *table.Table[string, int], k string) { x.Delete("c"); x.Delete("d"); x.Delete("e") },
		"delete all": func(x *table.Table[string, int], _ string) {
			for k := range x.All() {
				x.Delete(k)
			}
		},
	}
	for what, write := range writes {
		x, y := of("abcdef"), of("abcdef")
		got := ""
		for k, v := range x.All() {
			write(x, k)
			got += k + strconv.Itoa(v)
		}
		text(t, what, got, "a0b1c2d3e4f5")
		got = ""
		for k, v := range y.Range("b", "e") {
			write(y, k)
			got += k + strconv.Itoa(v)
		}
		text(t, what+", of a Range", got, "b1c2d3")
	}
	x := of("ab")
	for k := range x.All() {
		x.Put(k+"x", 2)
	}
	text(t, "what was put meanwhile", pairs(x.All()), "a 0, ax 2, b 1, bx 2")
}

// TestP3_2Within goes over a sequence while it is gone over, and at two paces.
func TestP3_2Within(t *testing.T) {
	x := of("abc")
	all, got := x.All(), ""
	for k := range all {
		for l := range all {
			got += k + l + " "
		}
		x.Delete(k)
	}
	text(t, "within", got, "aa ab ac bb bc cc ")

	y := of("abc")
	next, stop := iter.Pull2(y.All())
	defer stop()
	k, _, _ := next()
	text(t, "the first", k, "a")
	y.Put("aa", 9)
	y.Delete("b")
	text(t, "another meanwhile", pairs(y.All()), "a 0, aa 9, c 2")
	k, v, _ := next()
	text(t, "the second", k+strconv.Itoa(v), "b1")
}

// TestP3_2Panic leaves a going over by a panic of the body: the table is not held by it.
func TestP3_2Panic(t *testing.T) {
	x := of("abc")
	func() {
		defer func() {
			if recover() != "left" {
				t.Error("the body's panic is gone")
			}
		}()
		for range x.All() {
			panic("left")
		}
	}()
	x.Put("d", 3)
	text(t, "All", pairs(x.All()), "a 0, b 1, c 2, d 3")
}

func TestP3_3Example(t *testing.T) {
	x := table.New[string, int]()
	x.Put("b", 2)
	x.Put("a", 1)
	has(t, x, "b", 2)
	number(t, "Len", x.Len(), 2)
	text(t, "All", pairs(x.All()), "a 1, b 2")
	s := x.Snapshot()
	x.Put("b", 3)
	deleted[string, int](t, x, "a", true)
	deleted[string, int](t, x, "a", false)
	text(t, "All of the snapshot", pairs(s.All()), "a 1, b 2")
	text(t, "All behind it", pairs(x.All()), "b 3")
	number(t, "Version", x.Version(), 5)
	number(t, "Version of the snapshot", s.Version(), 2)
	text(t, "Range of the snapshot", pairs(s.Range("a", "b")), "a 1")
}

func TestP3_3Stays(t *testing.T) {
	x := of("mgscjpx")
	s := x.Snapshot()
	all := pairs(s.All())
	text(t, "All", all, "c 3, g 1, j 4, m 0, p 5, s 2, x 6")
	seq := s.All()
	for i := range 2000 {
		k := string(rune('a' + i*7%26))
		if i%3 == 0 {
			x.Delete(k)
		} else {
			x.Put(k, 100+i)
		}
		if i%100 == 0 {
			text(t, "All", pairs(s.All()), all)
		}
	}
	text(t, "All", pairs(seq), all)
	text(t, "Range", pairs(s.Range("g", "p")), "g 1, j 4, m 0")
	number(t, "Len", s.Len(), 7)
	number(t, "Version", s.Version(), 7)
	number(t, "Version of the table", x.Version(), 2007)
	has(t, s, "x", 6)
	hasNot[string, int](t, s, "b")
	for k := range x.All() {
		x.Delete(k)
	}
	text(t, "All of what is empty by now", pairs(s.All()), all)
}

func TestP3_3OfEmpty(t *testing.T) {
	x := table.New[string, int]()
	s := x.Snapshot()
	x.Put("a", 1)
	number(t, "Len", s.Len(), 0)
	number(t, "Version", s.Version(), 0)
	text(t, "All", pairs(s.All()), "")
	text(t, "Range", pairs(s.Range("a", "b")), "")
	hasNot[string, int](t, s, "a")
}

// TestP3_4Values hands out what was handed in: a list within a value is not copied.
func TestP3_4Values(t *testing.T) {
	x := table.New[string, []int]()
	list := []int{1, 2, 3}
	x.Put("a", list)
	s := x.Snapshot()
	list[0] = 7
	got, _ := x.Get("a")
	then, _ := s.Get("a")
	if &got[0] != &list[0] || &then[0] != &list[0] || got[0] != 7 {
		t.Errorf("the list was copied: %v, %v", got, then)
	}
	for _, v := range x.All() {
		if &v[0] != &list[0] {
			t.Errorf("the list was copied: %v", v)
		}
	}
}

func TestP3_5RangeIsAll(t *testing.T) {
	x := table.New[int, int]()
	for i := range 60 {
		x.Put(i*37%61*2, i)
	}
	s := x.Snapshot()
	for from := -2; from < 126; from++ {
		for to := -2; to < 126; to++ {
			var asked []int
			for k := range x.All() {
				if k >= from && k < to {
					asked = append(asked, k)
				}
			}
			for i, l := range []iter.Seq2[int, int]{x.Range(from, to), s.Range(from, to)} {
				var got []int
				for k, v := range l {
					got = append(got, k)
					has(t, x, k, v)
				}
				if !slices.Equal(got, asked) {
					t.Fatalf("Range(%d, %d), %d: %v, not %v", from, to, i, got, asked)
				}
			}
		}
	}
}

// alike tells that a snapshot of a table and the table are the same.
func alike(t *testing.T, x *table.Table[string, int], s *table.Snapshot[string, int]) {
	t.Helper()
	number(t, "Len", s.Len(), x.Len())
	number(t, "Version", s.Version(), x.Version())
	text(t, "All", pairs(s.All()), pairs(x.All()))
	for _, k := range []string{"", "a", "b", "c", "d"} {
		v, is := x.Get(k)
		w, was := s.Get(k)
		if v != w || is != was {
			t.Errorf("Get(%s): %d, %v; %d, %v", k, v, is, w, was)
		}
		text(t, "Range", pairs(s.Range(k, "c")), pairs(x.Range(k, "c")))
	}
}

func TestP3_5SnapshotIsTable(t *testing.T) {
	x := table.New[string, int]()
	alike(t, x, x.Snapshot())
	for i, k := range []string{"b", "a", "b", "c", "a"} {
		if i%3 == 2 {
			x.Delete(k)
		} else {
			x.Put(k, i)
		}
		s := x.Snapshot()
		alike(t, x, s)
		alike(t, x, s)
	}
	s := x.Snapshot()
	x.Delete("nobody")
	number(t, "Version of the snapshot", s.Version(), x.Version()-1)
}

// orders hands on the keys in all their orders.
func orders(keys []string, done int, do func()) {
	if done == len(keys) {
		do()
		return
	}
	for i := done; i < len(keys); i++ {
		keys[done], keys[i] = keys[i], keys[done]
		orders(keys, done+1, do)
		keys[done], keys[i] = keys[i], keys[done]
	}
}

func TestP3_5AnyOrder(t *testing.T) {
	keys := []string{"a", "b", "c", "d", "e", "f", "g"}
	orders(keys, 0, func() {
		x := table.New[string, int]()
		for _, k := range keys {
			x.Put(k, int(k[0]-'a'))
		}
		if got := pairs(x.All()); got != "a 0, b 1, c 2, d 3, e 4, f 5, g 6" {
			t.Fatalf("%v: %s", keys, got)
		}
	})
}

func TestP0_1NoTable(t *testing.T) {
	var none *table.Table[string, int]
	none.Put("a", 1)
	deleted[string, int](t, none, "a", false)
	hasNot[string, int](t, none, "a")
	number(t, "Len", none.Len(), 0)
	number(t, "Version", none.Version(), 0)
	text(t, "All", pairs(none.All()), "")
	text(t, "Range", pairs(none.Range("a", "b")), "")
	var gone *table.Snapshot[string, int]
	for _, s := range []*table.Snapshot[string, int]{none.Snapshot(), {}, gone} {
		hasNot[string, int](t, s, "a")
		number(t, "Len", s.Len(), 0)
		number(t, "Version", s.Version(), 0)
		text(t, "All", pairs(s.All()), "")
		text(t, "Range", pairs(s.Range("a", "b")), "")
	}
	var zero table.Table[string, int]
	text(t, "All of a zero one", pairs(zero.All()), "")
	zero.Put("a", 1)
	has(t, &zero, "a", 1)
}

func TestP0_1NoBody(t *testing.T) {
	x := of("ab")
	s := x.Snapshot()
	for _, l := range []iter.Seq2[string, int]{x.All(), x.Range("a", "z"), s.All(), s.Range("a", "z")} {
		l(nil)
		text(t, "behind it", pairs(l), "a 0, b 1")
	}
}
