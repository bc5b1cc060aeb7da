package dsl_test

import (
	"fmt"
	"math/rand/v2"
	"slices"
	"strconv"
	"strings"
	"testing"

	"exchequer/api"
	"exchequer/dsl"
)

// The words that are no names, the marks and the blanks, with a blank between the first two's.
const (
	words  = "input output rule if then or and not known true false int bool text"
	marks  = "= != < <= > >= + - * / % ( ) : ;"
	blanks = " \t\r\n"
)

// op is an expression of others.
func op(n int, l ...dsl.Expr) dsl.Expr { return dsl.Expr{Op: n, Args: l} }

// name is a name.
func name(s string) dsl.Expr { return dsl.Expr{Op: dsl.EName, S: s} }

// num is a number.
func num(n int) dsl.Expr { return dsl.Expr{Op: dsl.ENum, N: n} }

// str is a text.
func str(s string) dsl.Expr { return dsl.Expr{Op: dsl.EText, S: s} }

// truth is true or false.
func truth(n int) dsl.Expr { return dsl.Expr{Op: dsl.EBool, N: n} }

// known asks for a name.
func known(s string) dsl.Expr { return dsl.Expr{Op: dsl.EKnown, S: s} }

// letters is a name, if it isn't too long.
func letters(n int) string { return strings.Repeat("a", n) }

// levels is a name within so many of an Op.
func levels(n, o int) dsl.Expr {
	x := name("a")
	for range n {
		switch {
		case o == dsl.ENot || o == dsl.ENeg:
			x = op(o, x)
		case n%2 == 0:
			x = op(o, name("b"), x)
		default:
			x = op(o, x, name("b"))
		}
	}
	return x
}

// doubled is a name, and so many times over two of what was there: it stands in more places than could be gone over.
func doubled(n int, x dsl.Expr) dsl.Expr {
	for range n {
		x = op(dsl.EAdd, x, x)
	}
	return x
}

// same: are two expressions alike in all fields?
func same(a, b dsl.Expr) bool {
	return a.Op == b.Op && a.N == b.N && a.S == b.S && slices.EqualFunc(a.Args, b.Args, same)
}

// sameTheory: are two theories alike in all fields?
func sameTheory(a, b dsl.Theory) bool {
	return slices.Equal(a.Decls, b.Decls) && slices.EqualFunc(a.Rules, b.Rules, func(x, y dsl.Rule) bool {
		return x.Name == y.Name && x.Rank == y.Rank && x.Target == y.Target && same(x.If, y.If) && same(x.Then, y.Then)
	})
}

// tell is the beginning of a text.
func tell(s string) string {
	if len(s) > 100 {
		return strconv.Quote(s[:100]) + " and so on, " + strconv.Itoa(len(s)) + " bytes"
	}
	return strconv.Quote(s)
}

// show is the beginning of an expression or a theory as it is.
func show(x any) string { return tell(fmt.Sprint(x)) }

// expr is the expression of a text that has one.
func expr(t *testing.T, s string) dsl.Expr {
	t.Helper()
	x, e := dsl.ParseExpr(s)
	if e != api.OK {
		t.Fatalf("%s: %d", tell(s), e)
	}
	return x
}

// theory is the theory of a text that has one.
func theory(t *testing.T, s string) dsl.Theory {
	t.Helper()
	x, line, e := dsl.Parse(s)
	if line != 0 || e != api.OK {
		t.Fatalf("%s: %d in line %d", tell(s), e, line)
	}
	return x
}

// reads holds what is read from a text against an expression, alone and as those of a rule.
func reads(t *testing.T, s string, want dsl.Expr) {
	t.Helper()
	x, e := dsl.ParseExpr(s)
	if e != api.OK || !same(x, want) {
		t.Errorf("%s: %s, %d, not %s", tell(s), show(x), e, show(want))
	}
	within := "rule r 1:if(" + s + "\n)then p=(" + s + "\n);"
	if len(within) > api.MaxText {
		return
	}
	y, line, e := dsl.Parse(within)
	if !sameTheory(y, dsl.Theory{Rules: []dsl.Rule{{Name: "r", Rank: 1, If: want, Target: "p", Then: want}}}) || line != 0 || e != api.OK {
		t.Errorf("%s: %s, %d in line %d", tell(s), show(y), e, line)
	}
}

// fails holds a text to be no expression, beside which there is none.
func fails(t *testing.T, s string, want api.Errno) {
	t.Helper()
	if x, e := dsl.ParseExpr(s); e != want || !same(x, dsl.Expr{}) || x.Args != nil {
		t.Errorf("%s: %s, %d, not %d", tell(s), show(x), e, want)
	}
}

// refuses holds a text to be no theory, beside which there is none.
func refuses(t *testing.T, s string, want api.Errno, at int) {
	t.Helper()
	if x, line, e := dsl.Parse(s); line != at || e != want || !sameTheory(x, dsl.Theory{}) {
		t.Errorf("%s: %s, %d in line %d, not %d in line %d", tell(s), show(x), e, line, want, at)
	}
}

// prints holds an expression's text against one.
func prints(t *testing.T, x dsl.Expr, want string) {
	t.Helper()
	if s, e := dsl.FormatExpr(x); s != want || e != api.OK {
		t.Errorf("%s: %s, %d, not %s", show(x), tell(s), e, tell(want))
	}
}

// text is the text of an expression that has one.
func text(t *testing.T, x dsl.Expr) string {
	t.Helper()
	s, e := dsl.FormatExpr(x)
	if e != api.OK {
		t.Fatalf("%s: %d", show(x), e)
	}
	return s
}

// form is the text of a theory that has one.
func form(t *testing.T, x dsl.Theory) string {
	t.Helper()
	s, e := dsl.Format(x)
	if e != api.OK {
		t.Fatalf("%s: %d", show(x), e)
	}
	return s
}

// noText holds an expression to have no text, alone and as those of a rule.
func noText(t *testing.T, x dsl.Expr, want api.Errno) {
	t.Helper()
	if s, e := dsl.FormatExpr(x); s != "" || e != want {
		t.Errorf("%s: %s, %d, not %d", show(x), tell(s), e, want)
	}
	noForm(t, ruled(x, num(1)), want)
	noForm(t, ruled(dsl.Expr{}, x), want)
}

// noForm holds a theory to have no text.
func noForm(t *testing.T, x dsl.Theory, want api.Errno) {
	t.Helper()
	if s, e := dsl.Format(x); s != "" || e != want {
		t.Errorf("%s: %s, %d, not %d", show(x), tell(s), e, want)
	}
}

// ruled is a theory of one rule.
func ruled(holds, then dsl.Expr) dsl.Theory {
	return dsl.Theory{Rules: []dsl.Rule{{Name: "r", Rank: 1, If: holds, Target: "p", Then: then}}}
}

// pick is one of them, by a chance that is fixed ahead.
func pick[T any](r *rand.Rand, l ...T) T { return l[r.IntN(len(l))] }

// anyName is a name.
func anyName(r *rand.Rand) string {
	return pick(r, "a", "b", "z9", "not_", "i", "inputs", "true1", "a_b_c", letters(30))
}

// anyNumber is a number.
func anyNumber(r *rand.Rand) int { return pick(r, 0, 1, 9, 10, 12345, api.MaxUnits-1, api.MaxUnits) }

// anyExpr is an expression of so many levels at most.
func anyExpr(r *rand.Rand, depth int) dsl.Expr {
	o := dsl.ENum + r.IntN(dsl.ENeg)
	if depth <= 1 {
		o = dsl.ENum + r.IntN(dsl.EKnown)
	}
	switch o {
	case dsl.ENum:
		return num(anyNumber(r))
	case dsl.EText:
		return str(pick(r, "", "x", "a b", `"`, `\`, `\"`, "#", " ~", "if", strings.Repeat(`"`, 100)))
	case dsl.EBool:
		return truth(r.IntN(2))
	case dsl.EName:
		return name(anyName(r))
	case dsl.EKnown:
		return known(anyName(r))
	case dsl.ENot, dsl.ENeg:
		return op(o, anyExpr(r, depth-1))
	}
	return op(o, anyExpr(r, depth-1), anyExpr(r, depth-1))
}

// anyTheory is a theory of a few items.
func anyTheory(r *rand.Rand) dsl.Theory {
	var t dsl.Theory
	for range r.IntN(5) {
		t.Decls = append(t.Decls, dsl.Decl{Name: anyName(r), Type: 1 + r.IntN(3), Output: r.IntN(2) == 0})
	}
	for range r.IntN(5) {
		x := dsl.Rule{Name: anyName(r), Rank: anyNumber(r), Target: anyName(r), Then: anyExpr(r, 4)}
		if r.IntN(2) == 0 {
			x.If = anyExpr(r, 5)
		}
		t.Rules = append(t.Rules, x)
	}
	return t
}

// pieces are an expression's tokens, with parentheses round each operand that may need some, and round others as chance has it.
func pieces(r *rand.Rand, x dsl.Expr) []string {
	var l []string
	switch operator := strings.Fields("or and not = != < <= > >= + - * / % -"); x.Op {
	case dsl.ENum:
		l = []string{strconv.Itoa(x.N)}
	case dsl.EText:
		l = []string{`"` + strings.NewReplacer(`"`, `\"`, `\`, `\\`).Replace(x.S) + `"`}
	case dsl.EBool:
		l = []string{strconv.FormatBool(x.N == 1)}
	case dsl.EName:
		l = []string{x.S}
	case dsl.EKnown:
		l = []string{"known", x.S}
	case dsl.ENot, dsl.ENeg:
		l = append([]string{operator[x.Op-dsl.EOr]}, enclosed(pieces(r, x.Args[0]))...)
	default:
		l = append(enclosed(pieces(r, x.Args[0])), operator[x.Op-dsl.EOr])
		l = append(l, enclosed(pieces(r, x.Args[1]))...)
	}
	if r.IntN(8) == 0 {
		return enclosed(l, 2)
	}
	return l
}

// enclosed is tokens within parentheses, as often as is said, once else; and without any if there are no more than one.
func enclosed(l []string, times ...int) []string {
	if len(l) == 1 && times == nil {
		return l
	}
	for range append(times, 1)[0] {
		l = slices.Concat([]string{"("}, l, []string{")"})
	}
	return l
}

// theoryPieces are the tokens of a theory's items, the declarations and rules in any order between each other.
func theoryPieces(r *rand.Rand, t dsl.Theory) []string {
	var l []string
	decls, rules := t.Decls, t.Rules
	for len(decls)+len(rules) > 0 {
		if r.IntN(len(decls)+len(rules)) < len(decls) {
			d := decls[0]
			decls = decls[1:]
			way := "input"
			if d.Output {
				way = "output"
			}
			l = append(l, way, d.Name, ":", []string{"", "int", "bool", "text"}[d.Type], ";")
			continue
		}
		x := rules[0]
		rules = rules[1:]
		l = append(l, "rule", x.Name, strconv.Itoa(x.Rank), ":")
		if x.If.Op != 0 {
			l = append(append(l, "if"), pieces(r, x.If)...)
		}
		l = append(append(l, "then", x.Target, "="), pieces(r, x.Then)...)
		l = append(l, ";")
	}
	return l
}

// isWordly: does a name, word or number end or begin with it?
func isWordly(c byte) bool {
	return c == '_' || '0' <= c && c <= '9' || 'a' <= c && c <= 'z'
}

// joined is a text of tokens with blanks and comments between as chance has it, and where there must be some.
func joined(r *rand.Rand, l []string) string {
	var b strings.Builder
	b.WriteString(anyBlanks(r))
	for i, s := range l {
		if blank := anyBlanks(r); blank != "" {
			b.WriteString(blank)
		} else if i > 0 && isWordly(l[i-1][len(l[i-1])-1]) && isWordly(s[0]) {
			b.WriteByte(blanks[r.IntN(len(blanks))])
		}
		b.WriteString(s)
	}
	return b.String() + pick(r, "", "", "#", "# \xff; rule", " \n") + anyBlanks(r)
}

// anyBlanks is some blanks and comments, or none.
func anyBlanks(r *rand.Rand) string {
	var b strings.Builder
	for range max(0, r.IntN(6)-3) {
		b.WriteString(pick(r, " ", "\t", "\r", "\n", "#\n", "# a ; \" \x00 \xff #\r\n"))
	}
	return b.String()
}
