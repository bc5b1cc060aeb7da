package dsl_test

import (
	"math"
	"math/rand/v2"
	"strings"
	"testing"

	"exchequer/api"
	"exchequer/dsl"
)

// TestP9_3Examples is the chapter's examples of what is printed.
func TestP9_3Examples(t *testing.T) {
	a, b, c := name("a"), name("b"), name("c")
	prints(t, expr(t, "a+b*-2 < 3"), "a + b * -2 < 3")
	prints(t, op(dsl.EAnd, op(dsl.EOr, a, b), op(dsl.ENot, op(dsl.EEq, c, num(1)))), "(a or b) and not c = 1")
	prints(t, op(dsl.ESub, a, op(dsl.ESub, b, c)), "a - (b - c)")
}

// TestP9_3Plain prints expressions without operands, up to the limits of each.
func TestP9_3Plain(t *testing.T) {
	for want, x := range map[string]dsl.Expr{
		"0": num(0), "1": num(1), "10": num(10), "4611686018427387904": num(api.MaxUnits), "true": truth(1), "false": truth(0), "a": name("a"), "known b_1": known("b_1"), letters(30): name(letters(30)), "known " + letters(30): known(letters(30)),
		`""`: str(""), `"a b"`: str("a b"), `"\""`: str(`"`), `"\\"`: str(`\`), `"\\\"\\\\n"`: str(`\"\\n`), `" ~#"`: str(" ~#"), `"if"`: str("if"), `"` + strings.Repeat("x", 100) + `"`: str(strings.Repeat("x", 100)), `"` + strings.Repeat(`\"`, 100) + `"`: str(strings.Repeat(`"`, 100)), `"` + strings.Repeat(`\\`, 100) + `"`: str(strings.Repeat(`\`, 100)),
	} {
		prints(t, x, want)
		prints(t, op(dsl.ENeg, x), "-"+want)
		prints(t, op(dsl.ENot, x), "not "+want)
		prints(t, op(dsl.ESub, x, x), want+" - "+want)
	}
	prints(t, dsl.Expr{Op: dsl.EName, S: "a", Args: []dsl.Expr{}}, "a")
}

// TestP9_3Operators prints each kind of expression as an operand of each operator, with parentheses by a table of who needs them.
func TestP9_3Operators(t *testing.T) {
	a, b, c := name("a"), name("b"), name("c")
	rows := []struct {
		op    int
		binds int
		mark  string
	}{
		{dsl.EOr, 1, "or"}, {dsl.EAnd, 2, "and"}, {dsl.ENot, 3, "not"}, {dsl.EEq, 4, "="}, {dsl.ENe, 4, "!="}, {dsl.ELt, 4, "<"}, {dsl.ELe, 4, "<="}, {dsl.EGt, 4, ">"}, {dsl.EGe, 4, ">="},
		{dsl.EAdd, 5, "+"}, {dsl.ESub, 5, "-"}, {dsl.EMul, 6, "*"}, {dsl.EDiv, 6, "/"}, {dsl.EMod, 6, "%"}, {dsl.ENeg, 7, "-"},
	}
	round := func(s string, needed bool) string {
		if needed {
			return "(" + s + ")"
		}
		return s
	}
	for _, in := range rows {
		x, s := op(in.op, a, b), "a "+in.mark+" b"
		if in.op == dsl.ENot {
			x, s = op(in.op, a), "not a"
		} else if in.op == dsl.ENeg {
			x, s = op(in.op, a), "-a"
		}
		prints(t, x, s)
		for _, out := range rows {
			switch out.op {
			case dsl.ENot:
				prints(t, op(out.op, x), "not "+round(s, in.binds < 3))
			case dsl.ENeg:
				prints(t, op(out.op, x), "-"+round(s, in.binds < 7))
			default:
				left, right := round(s, in.binds < out.binds || in.binds == 4 && out.binds == 4), round(s, in.binds <= out.binds)
				prints(t, op(out.op, x, c), left+" "+out.mark+" c")
				prints(t, op(out.op, c, x), "c "+out.mark+" "+right)
				prints(t, op(out.op, x, x), left+" "+out.mark+" "+right)
			}
		}
	}
}

// TestP9_3Parentheses prints expressions whose parentheses are written out.
func TestP9_3Parentheses(t *testing.T) {
	for _, s := range []string{
		"a", "a + b + c", "a + (b + c)", "a - (b + c)", "a - b + c", "a * (b + c)", "(a + b) * c", "a + b * c", "a * b + c", "a * (b * c)", "a / (b % c)", "a / b % c", "a or b or c", "a or (b or c)", "a and b and c", "a and (b and c)", "a or b and c", "(a or b) and c", "a and (b or c)", "a and b or c",
		"not a", "not not a", "not (a or b)", "not (a and b)", "not a = b", "(not a) = b", "a = (not b)", "not a and b", "not (not a and b)", "a and not b", "a or not b", "(not a) + b", "a + (not b)", "-(not a)", "not -a", "not a + b", "not a and not b or not c",
		"a = b", "(a = b) = c", "a = (b = c)", "(a = b) < (b = c)", "a = b and b != c", "a + b = b * c", "(a = b) + c", "a + (b = c)", "(a or b) = (c and a)",
		"-a", "--a", "-1", "-(a + b)", "-(a * b)", "-(-a + b)", "-a * b", "a * -b", "a - -b", "a + -(b + c)", "-(a = b)", "-known a", `-"x"`, "-true", "a % -(b / -c)", "-(-(a * b) * c)", "((a = b) = c) = a", "a - (b - (c - (a - b)))",
	} {
		prints(t, expr(t, s), s)
	}
}

// TestP9_3Needed prints expressions, out of whose texts no two parentheses may be taken: it would be none, or another one.
func TestP9_3Needed(t *testing.T) {
	r := rand.New(rand.NewPCG(9, 3))
	for range 3000 {
		x := anyExpr(r, 2+r.IntN(4))
		s := text(t, x)
		var open []int
		quoted := false
		for i := 0; i < len(s); i++ {
			switch {
			case quoted && s[i] == '\\':
				i++
			case s[i] == '"':
				quoted = !quoted
			case !quoted && s[i] == '(':
				open = append(open, i)
			case !quoted && s[i] == ')':
				from := open[len(open)-1]
				open = open[:len(open)-1]
				without := s[:from] + " " + s[from+1:i] + " " + s[i+1:]
				if y, e := dsl.ParseExpr(without); e == api.OK && same(x, y) {
					t.Errorf("%s: %s would do", tell(s), tell(without))
				}
			}
		}
	}
}

// TestP9_3Form refuses expressions that are not of the form, alone, within others, and in rules.
func TestP9_3Form(t *testing.T) {
	a := name("a")
	bad := []dsl.Expr{
		{}, {Op: 21}, {Op: -1}, {Op: 100, S: "a"}, {Op: math.MinInt}, {Op: math.MaxInt}, {Op: 0, Args: []dsl.Expr{a}}, {Op: 21, Args: []dsl.Expr{a, a}}, {N: 1}, {S: "a"},
		num(-1), num(math.MinInt), num(api.MaxUnits + 1), num(math.MaxInt), {Op: dsl.ENum, S: "1"}, op(dsl.ENum, a),
		str("\n"), str("\x1f"), str("\x7f"), str("\u00e9"), str("\xff"), str("a\x00b"), str(strings.Repeat("x", 101)), str(strings.Repeat(`"`, 101)), {Op: dsl.EText, S: "a", N: 1}, {Op: dsl.EText, N: -1}, {Op: dsl.EText, S: "a", Args: []dsl.Expr{a}},
		truth(2), truth(-1), {Op: dsl.EBool, N: 1, S: "x"}, {Op: dsl.EBool, Args: []dsl.Expr{a}},
		name(""), name("A"), name("1a"), name("_a"), name("a b"), name("a-"), name("\u00e9"), name("a\n"), name(letters(31)), {Op: dsl.EName, S: "a", N: 1}, {Op: dsl.EName, S: "a", Args: []dsl.Expr{a}},
		known(""), known("A"), known("a."), known(letters(31)), {Op: dsl.EKnown, S: "a", N: 1}, {Op: dsl.EKnown, S: "a", Args: []dsl.Expr{a}},
	}
	for _, s := range strings.Fields(words) {
		bad = append(bad, name(s), known(s))
	}
	for o := dsl.EOr; o <= dsl.ENeg; o++ {
		l := []dsl.Expr{a, a}
		if o == dsl.ENot || o == dsl.ENeg {
			l = l[:1]
		}
		bad = append(bad, op(o), op(o, l[1:]...), op(o, append(l, a)...), op(o, append(l, dsl.Expr{})...), dsl.Expr{Op: o, N: 1, Args: l}, dsl.Expr{Op: o, N: -1, Args: l}, dsl.Expr{Op: o, S: "a", Args: l}, dsl.Expr{Op: o, S: "+", Args: l})
	}
	for _, x := range bad {
		if x.Op != 0 || len(x.Args)+len(x.S)+x.N > 0 {
			noText(t, x, api.ErrForm)
		}
		for _, outer := range []dsl.Expr{op(dsl.ENeg, x), op(dsl.ENot, op(dsl.ENot, x)), op(dsl.EAdd, a, x), op(dsl.EAdd, x, a), op(dsl.EOr, op(dsl.EAnd, a, op(dsl.EEq, num(1), x)), a)} {
			noText(t, outer, api.ErrForm)
		}
	}
	if s, e := dsl.FormatExpr(dsl.Expr{}); s != "" || e != api.ErrForm {
		t.Errorf("%s, %d", s, e)
	}
	noForm(t, ruled(a, dsl.Expr{}), api.ErrForm)
}

// TestP9_3Deep prints expressions of as many levels as there may be, and refuses those of more, ahead of all else.
func TestP9_3Deep(t *testing.T) {
	for o := dsl.EOr; o <= dsl.ENeg; o++ {
		text(t, levels(31, o))
		noText(t, levels(32, o), api.ErrDeep)
		noText(t, levels(1000, o), api.ErrDeep)
		noText(t, op(dsl.EAdd, dsl.Expr{}, levels(31, o)), api.ErrDeep)
		noText(t, op(dsl.EAdd, dsl.Expr{}, levels(30, o)), api.ErrForm)
		noText(t, op(99, levels(31, o)), api.ErrDeep)
		noText(t, dsl.Expr{Args: []dsl.Expr{levels(31, o)}}, api.ErrDeep)
	}
	noText(t, doubled(32, num(-1)), api.ErrDeep)
	prints(t, levels(31, dsl.ENeg), strings.Repeat("-", 31)+"a")
	prints(t, levels(31, dsl.ENot), strings.Repeat("not ", 31)+"a")
}

// filled is an expression whose text has so many bytes: texts with + between them, two by two.
func filled(size int) dsl.Expr {
	const leaves = 1024
	left := size - (leaves*2 + (leaves-1)*3 + (leaves/2-1)*2)
	var l []dsl.Expr
	for range leaves {
		n := min(left, 100)
		l = append(l, str(strings.Repeat("x", n)))
		left -= n
	}
	for len(l) > 1 {
		var next []dsl.Expr
		for i := 0; i < len(l); i += 2 {
			next = append(next, op(dsl.EAdd, l[i], l[i+1]))
		}
		l = next
	}
	return l[0]
}

// TestP9_3Long prints a text of as many bytes as it may have, and refuses one of one more, behind all else.
func TestP9_3Long(t *testing.T) {
	if s := text(t, filled(api.MaxText)); len(s) != api.MaxText || !same(expr(t, s), filled(api.MaxText)) {
		t.Errorf("%d bytes", len(s))
	}
	noText(t, filled(api.MaxText+1), api.ErrLong)
	noText(t, doubled(14, name("a")), api.ErrLong)
	noText(t, doubled(31, name("a")), api.ErrLong)
	noText(t, op(dsl.EAdd, filled(api.MaxText+1), num(-1)), api.ErrForm)
	noText(t, op(dsl.EAdd, doubled(14, name("a")), levels(31, dsl.ENeg)), api.ErrDeep)
	for d := range 20 {
		n := api.MaxText - 10 + d
		if s, e := dsl.FormatExpr(filled(n)); (e == api.OK) != (n <= api.MaxText) || e == api.OK && len(s) != n || e != api.OK && e != api.ErrLong {
			t.Errorf("%d: %d bytes, %d", n, len(s), e)
		}
	}
}
