package dsl_test

import (
	"strconv"
	"strings"
	"testing"

	"exchequer/api"
	"exchequer/dsl"
)

// TestP9_1Examples is the chapter's examples of what is read.
func TestP9_1Examples(t *testing.T) {
	reads(t, "a+b*-2 < 3", op(dsl.ELt, op(dsl.EAdd, name("a"), op(dsl.EMul, name("b"), op(dsl.ENeg, num(2)))), num(3)))
	refuses(t, "input q : int ;\nrule r 1 : then p = ;", api.ErrSyntax, 2)
	for _, s := range []string{"a = b = c", "1a", "01", ""} {
		fails(t, s, api.ErrSyntax)
	}
	if x, line, e := dsl.Parse(""); len(x.Decls) != 0 || len(x.Rules) != 0 || line != 0 || e != api.OK {
		t.Errorf("%s, %d in line %d", show(x), e, line)
	}
}

// TestP9_1Expressions reads expressions of each kind.
func TestP9_1Expressions(t *testing.T) {
	a, b, c := name("a"), name("b"), name("c")
	for s, want := range map[string]dsl.Expr{
		"0": num(0), "7": num(7), "4611686018427387904": num(api.MaxUnits), `""`: str(""), `"a b"`: str("a b"), `"\"\\"`: str(`"\`), `"#"`: str("#"), `"if"`: str("if"), "true": truth(1), "false": truth(0), "a": a, "z_9": name("z_9"), "a__": name("a__"), "known a": known("a"), "known known1": known("known1"),
		"a or b": op(dsl.EOr, a, b), "a and b": op(dsl.EAnd, a, b), "not a": op(dsl.ENot, a), "a = b": op(dsl.EEq, a, b), "a != b": op(dsl.ENe, a, b), "a < b": op(dsl.ELt, a, b), "a <= b": op(dsl.ELe, a, b), "a > b": op(dsl.EGt, a, b), "a >= b": op(dsl.EGe, a, b), "a + b": op(dsl.EAdd, a, b), "a - b": op(dsl.ESub, a, b), "a * b": op(dsl.EMul, a, b), "a / b": op(dsl.EDiv, a, b), "a % b": op(dsl.EMod, a, b), "- a": op(dsl.ENeg, a),
		"a or b or c": op(dsl.EOr, op(dsl.EOr, a, b), c), "a and b and c": op(dsl.EAnd, op(dsl.EAnd, a, b), c), "a-b+c": op(dsl.EAdd, op(dsl.ESub, a, b), c), "a/b*c": op(dsl.EMul, op(dsl.EDiv, a, b), c), "a%b/c": op(dsl.EDiv, op(dsl.EMod, a, b), c), "a-(b-c)": op(dsl.ESub, a, op(dsl.ESub, b, c)), "a or (b or c)": op(dsl.EOr, a, op(dsl.EOr, b, c)),
		"a or b and c": op(dsl.EOr, a, op(dsl.EAnd, b, c)), "a and b or c": op(dsl.EOr, op(dsl.EAnd, a, b), c), "a and not b or c": op(dsl.EOr, op(dsl.EAnd, a, op(dsl.ENot, b)), c), "not a = b and c": op(dsl.EAnd, op(dsl.ENot, op(dsl.EEq, a, b)), c), "not not a": op(dsl.ENot, op(dsl.ENot, a)), "not a or b": op(dsl.EOr, op(dsl.ENot, a), b), "(not a) = b": op(dsl.EEq, op(dsl.ENot, a), b),
		"a + b < c": op(dsl.ELt, op(dsl.EAdd, a, b), c), "a < b + c": op(dsl.ELt, a, op(dsl.EAdd, b, c)), "a = b or c = a": op(dsl.EOr, op(dsl.EEq, a, b), op(dsl.EEq, c, a)), "(a = b) = c": op(dsl.EEq, op(dsl.EEq, a, b), c), "a = (b = c)": op(dsl.EEq, a, op(dsl.EEq, b, c)),
		"a + b * c": op(dsl.EAdd, a, op(dsl.EMul, b, c)), "a * b + c": op(dsl.EAdd, op(dsl.EMul, a, b), c), "(a + b) * c": op(dsl.EMul, op(dsl.EAdd, a, b), c), "-a * b": op(dsl.EMul, op(dsl.ENeg, a), b), "-(a * b)": op(dsl.ENeg, op(dsl.EMul, a, b)), "a - -1": op(dsl.ESub, a, op(dsl.ENeg, num(1))), "--a": op(dsl.ENeg, op(dsl.ENeg, a)), "-0": op(dsl.ENeg, num(0)), "- known a": op(dsl.ENeg, known("a")), `-"x"`: op(dsl.ENeg, str("x")), "-true": op(dsl.ENeg, truth(1)),
		"((a))": a, "((a) + (b))": op(dsl.EAdd, a, b), "-(-(1))": op(dsl.ENeg, op(dsl.ENeg, num(1))),
	} {
		reads(t, s, want)
	}
}

// TestP9_1Nearby reads tokens with as little between as may be, and with less.
func TestP9_1Nearby(t *testing.T) {
	a, b := name("a"), name("b")
	for s, want := range map[string]dsl.Expr{
		"nota": name("nota"), "not(a)": op(dsl.ENot, a), `not"x"`: op(dsl.ENot, str("x")), "not-a": op(dsl.ENot, op(dsl.ENeg, a)), "not\ta": op(dsl.ENot, a), "not#\na": op(dsl.ENot, a), "knowna": name("knowna"), "known#a\nb": known("b"), "aandb": name("aandb"), "a and(b)": op(dsl.EAnd, a, b), "(a)and(b)": op(dsl.EAnd, a, b), `"x"and"y"`: op(dsl.EAnd, str("x"), str("y")), `"x"or b`: op(dsl.EOr, str("x"), b), "a_b": name("a_b"), "a1": name("a1"), "a1or2": name("a1or2"), "if1": name("if1"), "true0": name("true0"), "int_": name("int_"),
		"a<-b": op(dsl.ELt, a, op(dsl.ENeg, b)), "a<=-b": op(dsl.ELe, a, op(dsl.ENeg, b)), "a=-b": op(dsl.EEq, a, op(dsl.ENeg, b)), "a--b": op(dsl.ESub, a, op(dsl.ENeg, b)), "1-1": op(dsl.ESub, num(1), num(1)), `1<"1"`: op(dsl.ELt, num(1), str("1")), "1#\n+#\n1#": op(dsl.EAdd, num(1), num(1)),
	} {
		reads(t, s, want)
	}
	for _, s := range []string{"1and 2", "1 and2", "a and1", "a or1", "1or a", "1a", "0a", "1_", "0_", "1not", "1true", "1 2", "a b", "1 a", "a 1", `"x" "y"`, `"x""y"`, `"x"a`, `1"x"`, "known(a)", `known"a"`, "a<>b", "a=<b", "a=>b", "a==b", "a! =b", "a< =b", "a> =b", "a!b", "a<#\n=b", "!a", "a !", "a=!b"} {
		fails(t, s, api.ErrSyntax)
	}
}

// TestP9_1Names reads names of as many bytes as they may have and of more, the words that are none, and each byte in each place.
func TestP9_1Names(t *testing.T) {
	for _, s := range []string{letters(30), "a" + strings.Repeat("_", 29), "z" + strings.Repeat("9", 29), letters(28) + "b_"} {
		reads(t, s, name(s))
		reads(t, "known "+s, known(s))
	}
	for _, s := range []string{letters(31), "a" + strings.Repeat("_", 30), letters(1000), letters(api.MaxText - 6), "input" + letters(26)} {
		fails(t, s, api.ErrSyntax)
		fails(t, "known "+s, api.ErrSyntax)
	}
	for _, s := range strings.Fields(words) {
		if s != "true" && s != "false" {
			fails(t, s, api.ErrSyntax)
			fails(t, s+"+1", api.ErrSyntax)
			fails(t, "a +"+s, api.ErrSyntax)
		}
		fails(t, "known "+s, api.ErrSyntax)
		for _, longer := range []string{s + "s", s + "_", s + "0", "a" + s} {
			reads(t, longer, name(longer))
			reads(t, "known "+longer, known(longer))
		}
	}
	for c := range 256 {
		one, two := string([]byte{byte(c)}), "a"+string([]byte{byte(c)})
		switch {
		case 'a' <= c && c <= 'z':
			reads(t, one, name(one))
			reads(t, two, name(two))
		case '0' <= c && c <= '9':
			reads(t, one, num(c-'0'))
			reads(t, two, name(two))
		case c == '_':
			fails(t, one, api.ErrSyntax)
			reads(t, two, name(two))
		case strings.IndexByte(blanks+"#", byte(c)) >= 0:
			fails(t, one, api.ErrSyntax)
			reads(t, two, name("a"))
		default:
			fails(t, one, api.ErrSyntax)
			fails(t, two, api.ErrSyntax)
		}
	}
}

// TestP9_1Numbers reads numbers up to the greatest, and what is none.
func TestP9_1Numbers(t *testing.T) {
	for _, n := range []int{0, 1, 9, 10, 100, 1 << 31, 1 << 32, api.MaxUnits - 1, api.MaxUnits} {
		reads(t, strconv.Itoa(n), num(n))
		reads(t, "-"+strconv.Itoa(n), op(dsl.ENeg, num(n)))
		fails(t, "0"+strconv.Itoa(n), api.ErrSyntax)
		for _, behind := range []string{"a", "_", "A", ".", ".0", "e1", "x1", "'", "then"} {
			fails(t, strconv.Itoa(n)+behind, api.ErrSyntax)
		}
	}
	for _, s := range []string{"4611686018427387905", "4611686018427387910", "9223372036854775807", "9223372036854775808", "18446744073709551616", "46116860184273879040", strings.Repeat("9", 1000), strings.Repeat("0", 1000), "1" + strings.Repeat("0", api.MaxText-1), "+1", "-01", "0x1", "1_0", "1 0", "\u0661"} {
		fails(t, s, api.ErrSyntax)
	}
}

// TestP9_1Texts reads texts of as many bytes as they may have and of more, each byte within, and each escape.
func TestP9_1Texts(t *testing.T) {
	for _, part := range []string{"x", `\"`, `\\`, " ", "~", "#"} {
		s := strings.NewReplacer(`\"`, `"`, `\\`, `\`).Replace(part)
		for _, n := range []int{0, 1, 50, 99, 100} {
			reads(t, `"`+strings.Repeat(part, n)+`"`, str(strings.Repeat(s, n)))
		}
		for _, n := range []int{101, 102, 200, 1000} {
			fails(t, `"`+strings.Repeat(part, n)+`"`, api.ErrSyntax)
		}
		reads(t, `"`+strings.Repeat("x", 99)+part+`"`, str(strings.Repeat("x", 99)+s))
		fails(t, `"`+strings.Repeat("x", 100)+part+`"`, api.ErrSyntax)
		fails(t, `"`+part+strings.Repeat("x", 100)+`"`, api.ErrSyntax)
	}
	for c := range 256 {
		one := string([]byte{byte(c)})
		if c < 0x20 || c > 0x7E || c == '"' || c == '\\' {
			fails(t, `"`+one+`"`, api.ErrSyntax)
			fails(t, `"x`+one+`x"`, api.ErrSyntax)
		} else {
			reads(t, `"`+one+`"`, str(one))
			reads(t, `"x`+one+`x"`, str("x"+one+"x"))
		}
		if c == '"' || c == '\\' {
			reads(t, `"\`+one+`"`, str(one))
			reads(t, `"x\`+one+`x"`, str("x"+one+"x"))
		} else {
			fails(t, `"\`+one+`"`, api.ErrSyntax)
			fails(t, `"x\`+one+`x"`, api.ErrSyntax)
		}
	}
	for _, s := range []string{`"`, `"a`, `"\"`, `"a\`, `"\`, `"\\\"`, "\"a\n\"", "\"\u00e9\"", `'a'`, `a"`, `"a" "`, `"` + strings.Repeat("x", api.MaxText-1)} {
		fails(t, s, api.ErrSyntax)
	}
}

// TestP9_1Blanks reads blanks and comments between all tokens, and what is neither.
func TestP9_1Blanks(t *testing.T) {
	tokens := strings.Fields(`( a + - 1 ) * b <= "x y" or not known c`)
	tokens = append(append(tokens[:9:9], `"x y"`), tokens[11:]...)
	want := expr(t, `(a+-1)*b<="x y"or not known c`)
	if !same(want, op(dsl.EOr, op(dsl.ELe, op(dsl.EMul, op(dsl.EAdd, name("a"), op(dsl.ENeg, num(1))), name("b")), str("x y")), op(dsl.ENot, known("c")))) {
		t.Fatalf("%s", show(want))
	}
	for _, blank := range []string{" ", "\t", "\r", "\n", "\r\n", " \t\r\n \n\r\t ", "#\n", "# a or b\n", "#\xff\x00\"\r#\n", "#;\n#)\n\n"} {
		reads(t, blank+strings.Join(tokens, blank)+blank, want)
		for i := range len(tokens) + 1 {
			reads(t, strings.Join(tokens[:i], " ")+blank+strings.Join(tokens[i:], " "), want)
		}
	}
	for _, behind := range []string{"#", "# a", "#\xff", "##", "# \r", "\n#"} {
		reads(t, "a"+behind, name("a"))
		fails(t, "a +"+behind, api.ErrSyntax)
		fails(t, behind, api.ErrSyntax)
		fails(t, behind+" a", api.ErrSyntax)
	}
	for c := range 256 {
		s := string([]byte{byte(c)})
		if strings.IndexByte(blanks, byte(c)) >= 0 {
			reads(t, s+"a"+s+"+"+s+"1"+s, op(dsl.EAdd, name("a"), num(1)))
		} else if !isWordly(byte(c)) && strings.IndexByte("#(-", byte(c)) < 0 {
			fails(t, s+"a", api.ErrSyntax)
			fails(t, "a + "+s+" 1", api.ErrSyntax)
		}
	}
}

// TestP9_1Deep reads expressions of as many levels as there may be, and of one more.
func TestP9_1Deep(t *testing.T) {
	for o := dsl.EOr; o <= dsl.ENeg; o++ {
		for _, n := range []int{30, 31} {
			x := levels(n, o)
			reads(t, text(t, x), x)
			reads(t, "(("+text(t, x)+"))", x)
		}
	}
	row := func(mark string, n int) string { return strings.Repeat("a"+mark, n) + "a" }
	for _, mark := range []string{" or ", " and ", "+", "-", "*", "/", "%", "=b or ", "<b and ", "*b+"} {
		most := 31
		if strings.Contains(mark, "b") {
			most = 30
		}
		expr(t, row(mark, most))
		fails(t, row(mark, 32), api.ErrDeep)
		fails(t, row(mark, 33), api.ErrDeep)
		fails(t, row(mark, 1000), api.ErrDeep)
	}
	for _, ahead := range []string{"-", "not ", "a-(", "a=(", "-(", "not(", "a or(", "a*("} {
		ends := func(n int) string { return strings.Repeat(")", n*strings.Count(ahead, "(")) }
		expr(t, strings.Repeat(ahead, 31)+"a"+ends(31))
		fails(t, strings.Repeat(ahead, 32)+"a"+ends(32), api.ErrDeep)
		fails(t, strings.Repeat(ahead, 5000)+"a"+ends(5000), api.ErrDeep)
		fails(t, strings.Repeat(ahead, 5000), api.ErrSyntax)
	}
	for _, n := range []int{1, 31, 32, 33, 1000, api.MaxText/2 - 1} {
		s := strings.Repeat("(", n) + "a" + strings.Repeat(")", n)
		reads(t, s, name("a"))
		fails(t, s[1:], api.ErrSyntax)
		fails(t, s[:len(s)-1], api.ErrSyntax)
	}
	fails(t, strings.Repeat("(", api.MaxText), api.ErrSyntax)
	fails(t, strings.Repeat("-", api.MaxText), api.ErrSyntax)
	fails(t, strings.Repeat("-", api.MaxText-1)+"a", api.ErrDeep)
}

// TestP9_1DeepFirst meets what is too deep and what is no expression: what comes first is told, and a token behind what is too deep comes later.
func TestP9_1DeepFirst(t *testing.T) {
	deep := strings.Repeat("-", 32) + "a"
	for _, behind := range []string{"", ")", " b", " 1", ` "x"`, ";", " then", "$", " \xff", ` "`, " 01", " " + letters(31), " A", "(", "=b=c", " not", ":", " = 4611686018427387904", "+b)", " # comment", "!"} {
		fails(t, deep+behind, api.ErrDeep)
	}
	for _, s := range []string{deep + "+", deep + "=", deep + "=)", deep + " and", deep + " and $", "(" + deep, "(" + deep + ";", "(" + deep + "$", ")" + deep, "$" + deep, "a " + deep[:32], deep[:32], deep[:32] + ")", deep[:32] + "01", "b b" + deep, deep + "*not a"} {
		fails(t, s, api.ErrSyntax)
	}
}

// TestP9_1LongExpr reads texts of as many bytes as they may have, and of more.
func TestP9_1LongExpr(t *testing.T) {
	front := strings.Repeat(" ", api.MaxText-1)
	reads(t, front+"a", name("a"))
	reads(t, "a"+front, name("a"))
	reads(t, "a#"+front[1:], name("a"))
	fails(t, front+"+", api.ErrSyntax)
	fails(t, front+" ", api.ErrSyntax)
	for _, s := range []string{front + "a ", front + "aa", "$" + front + " ", front + "  ", strings.Repeat("-", api.MaxText+1), strings.Repeat("\xff", 1<<20), "a#" + front} {
		fails(t, s, api.ErrLong)
	}
}
