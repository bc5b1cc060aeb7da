package vm_test

import (
	"strconv"
	"strings"
	"testing"

	"exchequer/api"
	"exchequer/dsl"
	"exchequer/vm"
)

// known are inputs that are told by theFacts, and n, m and w that are not.
const known = "input i : int ; input j : int ; input hi : int ; input lo : int ; input b : bool ; input f : bool ; input s : text ; input u : text ; input e : text ; input n : int ; input m : bool ; input w : text ; "

// theFacts are those of known.
func theFacts() []vm.Fact {
	return []vm.Fact{vm.Int("i", -7), vm.Int("j", 2), vm.Int("hi", api.MaxUnits), vm.Int("lo", -api.MaxUnits), vm.Bool("b", true), vm.Bool("f", false), vm.Text("s", "ab"), vm.Text("u", "ab"), vm.Text("e", "")}
}

// valued holds an expression's value over theFacts against one: as a Then, and in an If ahead of another rule.
func valued(t *testing.T, s, want string) {
	t.Helper()
	kind := kindOf(t, s, theory(t, known).Decls)
	got, _ := concluded(t, compiled(t, known+"output o : "+word(kind)+" ; rule r 1 : then o = "+s+" ;"), theFacts())
	if want == "none" && got != "" || want != "none" && got != "o="+want && got != want {
		t.Errorf("%s: %s, not %s", s, got, want)
	}
	if kind != dsl.TBool {
		return
	}
	got, _ = concluded(t, compiled(t, known+"output o : int ; rule r 2 : if "+s+" then o = 1 ; rule s 1 : then o = 2 ;"), theFacts())
	switch {
	case want == "true" && got != "o=1", (want == "false" || want == "none") && got != "o=2", strings.HasPrefix(want, "error") && got != want:
		t.Errorf("if %s: %s, not %s", s, got, want)
	}
}

// TestP11_2Leaves asks for values of expressions without Args.
func TestP11_2Leaves(t *testing.T) {
	for s, want := range map[string]string{
		"0": "0", "7": "7", most: most, `""`: `""`, `"x"`: `"x"`, `"\"\\"`: `"\"\\"`, "true": "true", "false": "false",
		"i": "-7", "hi": most, "lo": "-" + most, "b": "true", "f": "false", "s": `"ab"`, "e": `""`, "n": "none", "m": "none", "w": "none",
		"known i": "true", "known f": "true", "known e": "true", "known n": "false", "known m": "false", "known w": "false",
		`"` + strings.Repeat("x", 100) + `"`: `"` + strings.Repeat("x", 100) + `"`,
	} {
		valued(t, s, want)
	}
}

// TestP11_2None asks for values of expressions with an Arg that is none: on the left, on the right, on both sides. All Args are worked out.
func TestP11_2None(t *testing.T) {
	for kind, marks := range map[int]string{dsl.TInt: "+ - * / % < <= > >= = !=", dsl.TBool: "= !=", dsl.TText: "= !="} {
		none := [...]string{"", "n", "m", "w"}[kind]
		for _, mark := range strings.Fields(marks) {
			for _, one := range strings.Fields([...]string{"", "i hi lo 0 7", "b f true", `s e "x"`}[kind]) {
				valued(t, none+" "+mark+" "+one, "none")
				valued(t, one+" "+mark+" "+none, "none")
			}
			valued(t, none+" "+mark+" "+none, "none")
			if kind == dsl.TInt {
				valued(t, "n "+mark+" (hi + 1)", "error 16")
				valued(t, "(hi + 1) "+mark+" n", "error 16")
				valued(t, "n "+mark+" (1 / 0)", "error 17")
				valued(t, "(1 % 0) "+mark+" n", "error 17")
			}
		}
	}
	valued(t, "not m", "none")
	valued(t, "-n", "none")
	valued(t, "n / 0", "none")
	valued(t, "n % 0", "none")
	valued(t, "0 * n", "none")
	valued(t, "not not (n = 1)", "none")
	valued(t, "1 + 2 * (3 - n)", "none")
	valued(t, "(n = 1) = (hi + 1 = 2)", "error 16")
}

// TestP11_2AndOr asks for values of EAnd and EOr: of true, false, none and what overflows, on either side.
func TestP11_2AndOr(t *testing.T) {
	values := map[string]string{"b": "true", "f": "false", "m": "none", "hi + 1 = 0": "error 16", "1 / 0 = 0": "error 17"}
	for left, one := range values {
		for right, other := range values {
			and, or := one, one
			if one == "true" {
				and = other
			}
			if one == "false" {
				or = other
			}
			valued(t, left+" and "+right, and)
			valued(t, left+" or "+right, or)
			// What they leave goes on.
			turned := map[string]string{"true": "false", "false": "true"}
			for was, want := range map[string]string{"and": and, "or": or} {
				if turned[want] != "" {
					want = turned[want]
				}
				valued(t, "not ("+left+" "+was+" "+right+")", want)
			}
		}
	}
	for s, want := range map[string]string{
		"f and m and 1 / 0 = 0": "false", "b or m or 1 / 0 = 0": "true", "m and f or b": "none", "f and m or b": "true", "(b or m) and (f or b)": "true",
		"b and (f or (b and (f or m)))": "none", "b and (f or (b and (f or j = 2)))": "true", "f or f or f or b": "true", "b and b and b and f": "false",
		"known n and n = 1 or known j and j = 2": "true", "known n and 1 / n = 1": "false", "(f and 1 / 0 = 0) = (b or 1 / 0 = 0)": "false",
		"(m or b) = b": "none", "j = 2 and (i = 3 or i = -7) and s = u": "true",
	} {
		valued(t, s, want)
	}
}

// TestP11_2Operators asks for values of the others.
func TestP11_2Operators(t *testing.T) {
	for s, want := range map[string]string{
		"not b": "false", "not f": "true", "not not b": "true", "-i": "7", "--i": "-7", "-0": "0", "-hi": "-" + most, "-lo": most,
		"i + j": "-5", "j + i": "-5", "i - j": "-9", "j - i": "9", "i * j": "-14", "i * i": "49", "1 - 2 - 3": "-4", "1 - (2 - 3)": "2", "2 + 3 * 4": "14",
		"7 / 2": "3", "-7 / 2": "-3", "7 / -2": "-3", "-7 / -2": "3", "7 % 2": "1", "-7 % 2": "-1", "7 % -2": "1", "-7 % -2": "-1",
		"1 / 2": "0", "-1 / 2": "0", "1 % 2": "1", "-1 % 2": "-1", "6 / 2": "3", "6 % 2": "0", "-6 % 2": "0", "0 / 5": "0", "0 % -5": "0", "12 / 5 / 2": "1",
		"1 / 0": "error 17", "0 / 0": "error 17", "1 % 0": "error 17", "hi / (j - 2)": "error 17", "lo % (j - 2)": "error 17",
		"i < j": "true", "j < i": "false", "i < -7": "false", "i <= -7": "true", "i <= -8": "false", "i > -7": "false", "i > -8": "true", "i >= -7": "true", "i >= -6": "false", "lo < hi": "true", "hi <= lo": "false",
		"i = -7": "true", "i != -7": "false", "i = j": "false", "i != j": "true", "b = b": "true", "b = f": "false", "b != f": "true", "f = false": "true", "f != f": "false",
		"s = u": "true", "s != u": "false", `s = "ab"`: "true", `s = "a"`: "false", `s = "abc"`: "false", `s = "Ab"`: "false", `s != "aB"`: "true", `e = ""`: "true", "e = s": "false", "e != s": "true", `s = "ab "`: "false",
		"(i < j) = (s = u)": "true", "known n = known m": "true", "known n != known i": "true",
	} {
		valued(t, s, want)
	}
}

// TestP11_2Bounds asks for ints at their bounds and beyond, and which of two errors is told.
func TestP11_2Bounds(t *testing.T) {
	for s, want := range map[string]string{
		"hi + 0": most, "hi + 1": "error 16", "1 + hi": "error 16", "hi + hi": "error 16", "lo + lo": "error 16", "hi + lo": "0", "lo + -1": "error 16", "lo + 1": "-4611686018427387903", "hi - 1 + 1": most,
		"lo - 0": "-" + most, "lo - 1": "error 16", "hi - lo": "error 16", "lo - hi": "error 16", "hi - hi": "0", "0 - hi": "-" + most, "0 - lo": most, "-1 - hi": "error 16", "hi - -1": "error 16",
		"hi * 1": most, "hi * -1": "-" + most, "lo * -1": most, "lo * 1": "-" + most, "hi * 2": "error 16", "lo * 2": "error 16", "hi * hi": "error 16", "lo * lo": "error 16", "hi * lo": "error 16", "hi * 0": "0", "0 * lo": "0", "4 * hi": "error 16", "hi * 4": "error 16", "lo * -4": "error 16",
		"2147483648 * 2147483648": most, "-2147483648 * 2147483648": "-" + most, "2147483648 * -2147483648": "-" + most, "-2147483648 * -2147483648": most, "2147483648 * 2147483649": "error 16", "2147483649 * -2147483648": "error 16", "2147483647 * 2147483649": "4611686018427387903", "3 * 1537228672809129301": "4611686018427387903", "3 * 1537228672809129302": "error 16", "4294967296 * 4294967296": "error 16", "4294967296 * 8589934592": "error 16",
		"hi / 1": most, "hi / -1": "-" + most, "lo / -1": most, "lo / 1": "-" + most, "hi / hi": "1", "lo / hi": "-1", "1 / hi": "0", "hi % lo": "0", "lo % -1": "0", "1 % hi": "1", "hi % 10": "4", "lo % 10": "-4", "hi / 10": "461168601842738790", "lo / 10": "-461168601842738790",
		"hi * 2 / 2": "error 16", "hi + 1 - 1": "error 16", "-(hi + 1)": "error 16", "hi + 1 = hi + 1": "error 16", "hi + 1 > 0": "error 16", "(hi + 1) / 0": "error 16", "(1 / 0) + (hi + 1)": "error 17", "1 / 0 * (hi + 1)": "error 17", "(hi + 1) * (1 / 0)": "error 16", "(hi + 1) % 0": "error 16", "hi * 2 / (j - 2)": "error 16",
	} {
		valued(t, s, want)
	}
}

// TestP11_2Ints holds each operator of ints, over all pairs of ints about the edges, against a working out without bounds.
func TestP11_2Ints(t *testing.T) {
	var edges []int
	for _, n := range []int{0, 5, 1 << 31, 1 << 32, 3037000500, 1 << 61, api.MaxUnits - 1} {
		for near := n - 1; near <= n+1; near++ {
			edges = append(edges, near, -near)
		}
	}
	for op, mark := range map[int]string{dsl.EEq: "=", dsl.ENe: "!=", dsl.ELt: "<", dsl.ELe: "<=", dsl.EGt: ">", dsl.EGe: ">=", dsl.EAdd: "+", dsl.ESub: "-", dsl.EMul: "*", dsl.EDiv: "/", dsl.EMod: "%"} {
		kind := dsl.TInt
		if op <= dsl.EGe {
			kind = dsl.TBool
		}
		x := theory(t, "input a : int ; input b : int ; output o : "+word(kind)+" ; rule r 1 : then o = a "+mark+" b ;")
		p := program(t, x)
		for _, a := range edges {
			for _, b := range edges {
				facts := []vm.Fact{vm.Int("a", a), vm.Int("b", b)}
				runs(t, p, modelled(x, facts), facts...)
			}
		}
	}
}

// TestP11_2Texts holds texts of any bytes against each other.
func TestP11_2Texts(t *testing.T) {
	p := compiled(t, "input a : text ; input b : text ; output o : bool ; output u : bool ; rule r 1 : then o = a = b ; rule s 1 : then u = a != b ;")
	texts := []string{"", "a", "b", "ab", "A", "\x00", "\x00\x00", "\xff", "\xfe", "\u00e9", "e\u0301", strings.Repeat("x", 200), strings.Repeat("x", 199), strings.Repeat("x", 199) + "y", "y" + strings.Repeat("x", 199)}
	for i, a := range texts {
		for j, b := range texts {
			runs(t, p, "o="+strconv.FormatBool(i == j)+" u="+strconv.FormatBool(i != j), vm.Text("a", a), vm.Text("b", strings.Clone(b)))
		}
	}
}

// TestP11_2Deep asks for values of expressions of as many levels as there may be.
func TestP11_2Deep(t *testing.T) {
	left, right := strings.Repeat("(", 31)+"i"+strings.Repeat(" - j)", 31), strings.Repeat("(j - ", 31)+"i"+strings.Repeat(")", 31)
	valued(t, left, strconv.Itoa(-7-31*2))
	valued(t, right, strconv.Itoa(2+7))
	valued(t, strings.Repeat("(b and ", 31)+"f"+strings.Repeat(")", 31), "false")
	valued(t, strings.Repeat("(", 31)+"f"+strings.Repeat(" or b)", 31), "true")
	valued(t, strings.Repeat("(f or ", 31)+"m"+strings.Repeat(")", 31), "none")
	valued(t, strings.Repeat("not ", 31)+"b", "false")
	valued(t, strings.Repeat("-", 31)+"i", "7")
}
