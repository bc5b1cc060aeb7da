package check_test

import (
	"math"
	"math/rand/v2"
	"slices"
	"strings"
	"testing"

	"exchequer/api"
	"exchequer/dsl"
)

// three are a name of each type.
const three = "i:1 b:2 s:3"

// meanings say of each Op which types its Args have, and its own type: the chapter's list, written out.
var meanings = map[int]string{
	dsl.ENum: "1", dsl.EText: "3", dsl.EBool: "2", dsl.EKnown: "2",
	dsl.EOr: "222", dsl.EAnd: "222", dsl.ENot: "22",
	dsl.EEq: "112 222 332", dsl.ENe: "112 222 332", dsl.ELt: "112", dsl.ELe: "112", dsl.EGt: "112", dsl.EGe: "112",
	dsl.EAdd: "111", dsl.ESub: "111", dsl.EMul: "111", dsl.EDiv: "111", dsl.EMod: "111", dsl.ENeg: "11",
}

// counts says how many Args each Op has; false if there is no such Op.
func counts(o int) (int, bool) {
	if o == dsl.EName {
		return 0, true
	}
	l, is := meanings[o]
	return len(strings.Fields(l + " x")[0]) - 1, is
}

// gives is an Op's type with Args of such types; 0 if they do not do.
func gives(o int, args []int) int {
	for _, l := range strings.Fields(meanings[o]) {
		if slices.EqualFunc([]byte(l[:len(l)-1]), args, func(c byte, n int) bool { return int(c-'0') == n }) {
			return int(l[len(l)-1] - '0')
		}
	}
	return 0
}

// isFormed: has an expression the form that its Op asks, its Args aside, by chapter 9's words?
func isFormed(x dsl.Expr) bool {
	n, is := counts(x.Op)
	if !is || n != len(x.Args) {
		return false
	}
	switch x.Op {
	case dsl.ENum:
		return 0 <= x.N && x.N <= 1<<62 && x.S == ""
	case dsl.EText:
		return x.N == 0 && len(x.S) <= 100 && !strings.ContainsFunc(x.S, func(c rune) bool { return c < 0x20 || c > 0x7E })
	case dsl.EBool:
		return x.N>>1 == 0 && x.S == ""
	case dsl.EName, dsl.EKnown:
		return x.N == 0 && strings.Trim(x.S, "abcdefghijklmnopqrstuvwxyz0123456789_") == "" && strings.Trim(x.S[:min(1, len(x.S))], "0123456789_") != "" && len(x.S) <= 30 && !slices.Contains(strings.Fields("input output rule if then or and not known true false int bool text"), x.S)
	}
	return x.N == 0 && x.S == ""
}

// meaning is an expression's type by the chapter's words, its levels aside; or the first fault.
func meaning(x dsl.Expr, l []dsl.Decl) (int, api.Errno) {
	var args []int
	for _, y := range x.Args {
		kind, e := meaning(y, l)
		if e != api.OK {
			return 0, e
		}
		args = append(args, kind)
	}
	at := slices.IndexFunc(l, func(d dsl.Decl) bool { return d.Name == x.S })
	switch {
	case !isFormed(x):
		return 0, api.ErrForm
	case (x.Op == dsl.EName || x.Op == dsl.EKnown) && at < 0:
		return 0, api.ErrUnknown
	case x.Op == dsl.EName:
		return l[at].Type, api.OK
	case gives(x.Op, args) == 0:
		return 0, api.ErrType
	}
	return gives(x.Op, args), api.OK
}

// plain is an Op with the fields that it names, and such Args.
func plain(o int, args []dsl.Expr) dsl.Expr {
	x := dsl.Expr{Op: o, Args: args}
	switch o {
	case dsl.ENum, dsl.EBool:
		x.N = 1
	case dsl.EText, dsl.EName, dsl.EKnown:
		x.S = "i"
	}
	return x
}

// TestP10_1Ops asks for the type of each Op with each number of Args, each of each type: names, constants, and what is made of them.
func TestP10_1Ops(t *testing.T) {
	l := decls(three)
	of := [][]dsl.Expr{{name("i"), num(3), op(dsl.ENeg, name("i"))}, {name("b"), truth(0), known("s"), op(dsl.ENot, name("b"))}, {name("s"), str("x")}}
	for o := -2; o <= 23; o++ {
		number, there := counts(o)
		rows := [][]int{{}}
		for n := 0; n <= 3; n++ {
			for _, row := range rows {
				for way := range 4 {
					var args []dsl.Expr
					for _, kind := range row {
						args = append(args, of[kind-1][way%len(of[kind-1])])
					}
					x := plain(o, args)
					switch want := gives(o, row); {
					case !there || n != number:
						untyped(t, x, l, api.ErrForm)
					case o == dsl.EName:
						typed(t, x, l, dsl.TInt, api.OK)
					case want == 0:
						untyped(t, x, l, api.ErrType)
					default:
						typed(t, x, l, want, api.OK)
					}
				}
			}
			var longer [][]int
			for _, row := range rows {
				for kind := 1; kind <= 3; kind++ {
					longer = append(longer, append(slices.Clone(row), kind))
				}
			}
			rows = longer
		}
	}
}

// TestP10_1Texts asks for types of expressions that are read.
func TestP10_1Texts(t *testing.T) {
	l := decls(three)
	for s, want := range map[string]int{
		"0": 1, "4611686018427387904": 1, `""`: 3, `"a\"\\"`: 3, "true": 2, "false": 2, "i": 1, "b": 2, "s": 3, "known i": 2, "known b": 2, "known s": 2, "not b": 2, "b or known i and not b": 2, "b = b": 2, "s != s": 2, `s = "x"`: 2, "i = -i": 2, "i < 2": 2, "i <= 2": 2, "i > 2": 2, "i >= 2": 2, "i + 1": 1, "i - 1": 1, "i * 1": 1, "i / 0": 1, "i % 0": 1, "-i": 1, "(i < 1) = (s = s)": 2, "(i = 1) != b": 2, "not i * 2 + i / 3 - i % 4 < 7 or b": 2,
	} {
		typed(t, expr(t, s), l, want, api.OK)
	}
	for s, want := range map[string]api.Errno{
		"i = b": api.ErrType, "i = s": api.ErrType, "b != s": api.ErrType, "s < s": api.ErrType, "b > b": api.ErrType, "i >= s": api.ErrType, "i <= b": api.ErrType, "not i": api.ErrType, "not s": api.ErrType, "-b": api.ErrType, "-s": api.ErrType, "i and b": api.ErrType, "b and i": api.ErrType, "b or s": api.ErrType, "s + s": api.ErrType, "i - b": api.ErrType, "b * i": api.ErrType, "i / s": api.ErrType, "s % i": api.ErrType, "(i = 1) = i": api.ErrType,
		"x": api.ErrUnknown, "known x": api.ErrUnknown, "x + s": api.ErrUnknown, "s + x": api.ErrUnknown, "not (s < x)": api.ErrUnknown, "-s + x": api.ErrType, "x + -s": api.ErrUnknown, "(s + s) * known x": api.ErrType, "known x * (s + s)": api.ErrUnknown, "known i + 1": api.ErrType,
	} {
		untyped(t, expr(t, s), l, want)
	}
}

// TestP10_1Names asks for names that are declared once, twice and not at all.
func TestP10_1Names(t *testing.T) {
	for s, want := range map[string]int{"a:1": 1, "a:2": 2, "a:3": 3, "a:1!": 1, "a:3!": 3, "b:2 a:1": 1, "a:1 b:2": 1, "a:1 a:2": 1, "a:2! a:1": 2, "b:1 a:3 a:2 a:1!": 3, "aa:1 a0:1 a_:1 a:2": 2} {
		typed(t, name("a"), decls(s), want, api.OK)
		typed(t, known("a"), decls(s), dsl.TBool, api.OK)
		typed(t, op(dsl.EEq, name("a"), name("a")), decls(s), dsl.TBool, api.OK)
	}
	for _, s := range []string{"", "b:1", "aa:1 b:2", "a0:1!"} {
		for _, x := range []dsl.Expr{name("a"), known("a"), op(dsl.EEq, name("a"), name("a")), op(dsl.ENot, known("a")), op(dsl.EAnd, truth(1), known("a"))} {
			untyped(t, x, decls(s), api.ErrUnknown)
		}
	}
	typed(t, name(letters(30)), decls(letters(30)+":1"), dsl.TInt, api.OK)
	untyped(t, name(letters(29)), decls(letters(30)+":1"), api.ErrUnknown)
	// What types and names declarations have is not asked here.
	for _, kind := range []int{0, 4, -1, math.MaxInt, math.MinInt} {
		l := []dsl.Decl{{Name: "", Type: 1}, {Name: "a", Type: kind}, {Name: "If", Type: 9}}
		typed(t, name("a"), l, kind, api.OK)
		typed(t, known("a"), l, dsl.TBool, api.OK)
		typed(t, op(dsl.ENe, name("a"), name("a")), l, dsl.TBool, api.OK)
		typed(t, op(dsl.EEq, name("a"), num(1)), l, 0, api.ErrType)
		typed(t, op(dsl.ENeg, name("a")), l, 0, api.ErrType)
		typed(t, op(dsl.EAnd, truth(1), name("a")), l, 0, api.ErrType)
	}
	for _, s := range []string{"", "If"} {
		typed(t, name(s), []dsl.Decl{{Name: s, Type: 1}}, 0, api.ErrForm)
	}
}

// noForms are expressions whose own form is none.
func noForms() []dsl.Expr {
	i := name("i")
	l := []dsl.Expr{
		{Op: -1}, {Op: 21}, {Op: 77}, {Op: math.MinInt}, {Op: math.MaxInt}, num(-1), num(math.MinInt), num(api.MaxUnits + 1), num(math.MaxInt), truth(-1), truth(2),
		{Op: dsl.ENum, S: "x"}, {Op: dsl.EBool, S: "x"}, {Op: dsl.EText, N: 1, S: "x"}, {Op: dsl.EName, N: 1, S: "i"}, {Op: dsl.EKnown, N: -1, S: "i"},
		op(dsl.ENum, i), op(dsl.EText, i), op(dsl.EBool, i), {Op: dsl.EName, S: "i", Args: []dsl.Expr{i}}, {Op: dsl.EKnown, S: "i", Args: []dsl.Expr{i}},
		op(dsl.ENeg), op(dsl.ENeg, i, i), op(dsl.ENot), op(dsl.ENot, name("b"), name("b")), op(dsl.EAdd), op(dsl.EAdd, i), op(dsl.EAdd, i, i, i), op(dsl.EAdd, i, i, i, i), {Op: dsl.EMul, Args: slices.Repeat([]dsl.Expr{i}, 100000)},
		{Op: dsl.EAdd, N: 1, Args: []dsl.Expr{i, i}}, {Op: dsl.EAdd, S: "i", Args: []dsl.Expr{i, i}}, {Op: dsl.ENeg, N: -1, Args: []dsl.Expr{i}}, {Op: dsl.EAdd, N: 1, Args: []dsl.Expr{name("s"), i}},
	}
	for _, s := range append(strings.Fields("input output rule if then or and not known true false int bool text A iI 1 1a _a a-b é"), "", " ", "a b", "a\n", "\x00", "\xff", letters(31), letters(100000)) {
		l = append(l, name(s), known(s))
	}
	for _, s := range []string{"\x1f", "\x7f", "\x00", "\n", "\t", "é", "\xff", "x\x80", strings.Repeat(" ", 101), letters(1 << 17)} {
		l = append(l, str(s))
	}
	return l
}

// TestP10_1Form refuses expressions whose own form is none, alone and within others; what is at the edges is taken.
func TestP10_1Form(t *testing.T) {
	l := append(decls(three), dsl.Decl{Name: "", Type: 1}, dsl.Decl{Name: "if", Type: 1})
	for _, x := range noForms() {
		typed(t, x, l, 0, api.ErrForm)
		for _, y := range []dsl.Expr{x, op(dsl.ENeg, x), op(dsl.EEq, num(1), x), op(dsl.EEq, x, name("x")), op(77, x), op(dsl.EAdd, x, op(dsl.ENeg, str(""))), op(dsl.EAdd, num(1), num(1), x)} {
			untyped(t, y, l[:3], api.ErrForm)
		}
		typed(t, op(dsl.EAdd, name("x"), x), l, 0, api.ErrUnknown)
		typed(t, op(dsl.EAdd, op(dsl.ENeg, str("")), x), l, 0, api.ErrType)
	}
	typed(t, dsl.Expr{}, l, 0, api.ErrForm)
	for _, x := range []dsl.Expr{num(0), num(api.MaxUnits)} {
		typed(t, x, nil, dsl.TInt, api.OK)
	}
	for _, x := range []dsl.Expr{str(""), str(" ~"), str(strings.Repeat("\"", 100)), {Op: dsl.EText, S: "x", Args: []dsl.Expr{}}} {
		typed(t, x, nil, dsl.TText, api.OK)
	}
	for _, x := range []dsl.Expr{truth(0), truth(1)} {
		typed(t, x, nil, dsl.TBool, api.OK)
	}
}

// TestP10_1First asks which of several faults is told: the Args' ahead of their Op's, from the left, whatever number of them there is.
func TestP10_1First(t *testing.T) {
	l := decls(three)
	form, unknown, kind := num(-1), name("x"), op(dsl.ENeg, name("s"))
	errors := []struct {
		x dsl.Expr
		e api.Errno
	}{{form, api.ErrForm}, {unknown, api.ErrUnknown}, {kind, api.ErrType}}
	for _, a := range errors {
		for _, o := range []int{-1, 0, dsl.ENum, dsl.EText, dsl.EName, dsl.EKnown, dsl.ENeg, dsl.ENot, dsl.EAdd, dsl.EEq, dsl.EAnd, 21, 99} {
			for _, b := range errors {
				untyped(t, op(o, a.x, b.x), l, a.e)
				untyped(t, op(o, num(1), a.x, b.x), l, a.e)
				untyped(t, op(o, op(dsl.ENeg, a.x), b.x), l, a.e)
				untyped(t, op(o, b.x, a.x, a.x, a.x), l, b.e)
			}
			untyped(t, op(o, a.x), l, a.e)
			untyped(t, op(o, name("s"), name("b"), a.x), l, a.e)
			untyped(t, op(o, name("s"), name("b"), name("i"), name("i"), name("i"), a.x), l, a.e)
			untyped(t, dsl.Expr{Op: o, Args: append(slices.Repeat([]dsl.Expr{name("i")}, 1000), a.x)}, l, a.e)
			untyped(t, dsl.Expr{Op: o, N: -1, S: "If", Args: []dsl.Expr{num(1), a.x}}, l, a.e)
		}
	}
	untyped(t, op(dsl.EAdd, name("s"), name("s"), name("s")), l, api.ErrForm)
	untyped(t, dsl.Expr{Op: dsl.EAdd, N: 1, Args: []dsl.Expr{name("s"), name("b")}}, l, api.ErrForm)
	untyped(t, dsl.Expr{Op: dsl.EName, N: 1, S: "x"}, l, api.ErrForm)
	untyped(t, dsl.Expr{Op: dsl.EKnown, S: "x", Args: []dsl.Expr{num(1)}}, l, api.ErrForm)
}

// TestP10_1Deep asks for expressions of as many levels as there may be, and of one more, ahead of all else.
func TestP10_1Deep(t *testing.T) {
	l := decls(three)
	for n := range api.MaxDepth {
		typed(t, negated(n, name("i")), l, dsl.TInt, api.OK)
		untyped(t, negated(n, name("x")), l, api.ErrUnknown)
		untyped(t, negated(n, num(-1)), l, api.ErrForm)
	}
	typed(t, op(dsl.ELt, negated(api.MaxDepth-2, num(1)), num(1)), l, dsl.TBool, api.OK)
	for _, n := range []int{api.MaxDepth, api.MaxDepth + 1, 1000, 1 << 16} {
		deep := negated(n, name("i"))
		for _, x := range []dsl.Expr{deep, negated(n, num(-1)), negated(n, name("x")), negated(n, str("")), op(dsl.EAdd, num(-1), deep), op(dsl.EAdd, name("x"), deep), op(77, str(""), num(-1), deep), op(dsl.EAdd, op(dsl.ENeg, str("")), deep), op(dsl.ENum, deep)} {
			untyped(t, x, l, api.ErrDeep)
		}
	}
	untyped(t, op(dsl.EAdd, num(1), negated(api.MaxDepth-1, num(1))), l, api.ErrDeep)
	x := name("i")
	for range 31 {
		x = op(77, x)
	}
	untyped(t, x, l, api.ErrForm)
	untyped(t, op(77, x), l, api.ErrDeep)
}

// TestP10_1Shared asks for expressions that stand in more places of others than could be gone over one by one.
func TestP10_1Shared(t *testing.T) {
	l := decls(three)
	typed(t, doubled(31, dsl.EAdd, name("i")), l, dsl.TInt, api.OK)
	typed(t, doubled(31, dsl.EAnd, known("i")), l, dsl.TBool, api.OK)
	typed(t, doubled(30, dsl.EOr, op(dsl.EEq, name("s"), name("s"))), l, dsl.TBool, api.OK)
	untyped(t, doubled(32, dsl.EAdd, name("i")), l, api.ErrDeep)
	untyped(t, doubled(31, dsl.EAdd, name("x")), l, api.ErrUnknown)
	untyped(t, doubled(31, dsl.EAdd, num(-1)), l, api.ErrForm)
	untyped(t, doubled(31, dsl.EAdd, name("b")), l, api.ErrType)
	untyped(t, op(dsl.EAdd, doubled(30, dsl.EAdd, name("i")), name("x")), l, api.ErrUnknown)
	untyped(t, op(dsl.EAnd, doubled(30, dsl.EAdd, name("i")), truth(1)), l, api.ErrType)
	row := make([]dsl.Expr, 32)
	for i := range row {
		row[i] = name("i")
		if i > 0 {
			row[i] = op(dsl.EAdd, row[i-1], row[i-1])
		}
	}
	wide := dsl.Expr{Op: dsl.EAdd, Args: row[:31]}
	for range 1000 {
		wide.Args = append(wide.Args, row[30])
	}
	untyped(t, wide, l, api.ErrForm)
	typed(t, row[31], l, dsl.TInt, api.OK)
}

// anyExpr is an expression of so many levels at most, the types of whose Args may do, and whose form may be one.
func anyExpr(r *rand.Rand, depth int, l []dsl.Decl) dsl.Expr {
	switch {
	case r.IntN(20) == 0:
		return pick(r, num(-1), name("x"), known("x"), name("y"), known("x_"), str("\n"), truth(2), dsl.Expr{Op: 21}, dsl.Expr{}, name("if"))
	case depth > 1 && r.IntN(25) == 0:
		x := plain(r.IntN(22), nil)
		for range r.IntN(5) {
			x.Args = append(x.Args, anyExpr(r, depth-1, l))
		}
		return x
	case depth > 1 && r.IntN(4) == 0:
		o := dsl.EOr + r.IntN(dsl.ENeg-dsl.EOr+1)
		if o == dsl.ENot || o == dsl.ENeg {
			return op(o, anyExpr(r, depth-1, l))
		}
		return op(o, anyExpr(r, depth-1, l), anyExpr(r, depth-1, l))
	}
	return anyOf(r, 1+r.IntN(3), depth, l)
}

// TestP10_1Any holds types and errors against the promise's words.
func TestP10_1Any(t *testing.T) {
	r := rand.New(rand.NewPCG(10, 1))
	l := decls("i:1 b:2 s:3 j:1! c:2! i:3")
	seen := map[api.Errno]int{}
	for range 20000 {
		x := anyExpr(r, 1+r.IntN(6), l)
		want, e := meaning(x, l)
		typed(t, x, l, want, e)
		seen[e]++
	}
	for _, e := range []api.Errno{api.OK, api.ErrForm, api.ErrUnknown, api.ErrType} {
		if seen[e] < 500 {
			t.Errorf("%d: only %d", e, seen[e])
		}
	}
}

// TestP10_1Of holds what is made of one type to be of it.
func TestP10_1Of(t *testing.T) {
	r := rand.New(rand.NewPCG(1, 10))
	for range 5000 {
		l := anyTheory(r).Decls
		kind := 1 + r.IntN(3)
		x := anyOf(r, kind, 1+r.IntN(8), l)
		typed(t, x, l, kind, api.OK)
	}
}
