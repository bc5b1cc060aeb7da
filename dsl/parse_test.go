package dsl_test

import (
	"math/rand/v2"
	"strconv"
	"strings"
	"testing"

	"exchequer/api"
	"exchequer/dsl"
)

// TestP9_1Theories reads theories of all kinds of items.
func TestP9_1Theories(t *testing.T) {
	q := dsl.Decl{Name: "q", Type: dsl.TInt}
	p := dsl.Decl{Name: "p", Type: dsl.TBool, Output: true}
	v := dsl.Decl{Name: "v", Type: dsl.TText, Output: true}
	r := dsl.Rule{Name: "r", Rank: 1, If: op(dsl.EGt, name("q"), num(3)), Target: "p", Then: op(dsl.EMul, name("q"), num(2))}
	s := dsl.Rule{Name: "s", Target: "v", Then: str("x")}
	for from, want := range map[string]dsl.Theory{
		"input q : int ;": {Decls: []dsl.Decl{q}}, "output p : bool ;": {Decls: []dsl.Decl{p}}, "output v:text;": {Decls: []dsl.Decl{v}}, "input q:bool;": {Decls: []dsl.Decl{{Name: "q", Type: dsl.TBool}}}, "input q:text;": {Decls: []dsl.Decl{{Name: "q", Type: dsl.TText}}},
		"rule r 1 : if q > 3 then p = q * 2 ;": {Rules: []dsl.Rule{r}}, `rule s 0:then v="x";`: {Rules: []dsl.Rule{s}}, "rule r 4611686018427387904 : then p = 1 ;": {Rules: []dsl.Rule{{Name: "r", Rank: api.MaxUnits, Target: "p", Then: num(1)}}},
		`rule s 0:then v="x";output v:text;rule r 1:if q>3 then p=q*2;output p:bool;input q:int;`: {Decls: []dsl.Decl{v, p, q}, Rules: []dsl.Rule{s, r}}, "input q:int;input q:int;output q:int;": {Decls: []dsl.Decl{q, q, {Name: "q", Type: dsl.TInt, Output: true}}},
		"rule a 1:then a=a=a;": {Rules: []dsl.Rule{{Name: "a", Rank: 1, Target: "a", Then: op(dsl.EEq, name("a"), name("a"))}}}, "rule r 1:if(known p)then p=not p;": {Rules: []dsl.Rule{{Name: "r", Rank: 1, If: known("p"), Target: "p", Then: op(dsl.ENot, name("p"))}}},
		"": {}, " \n": {}, "# a": {}, "#\n#": {},
	} {
		x, line, e := dsl.Parse(from)
		if !sameTheory(x, want) || line != 0 || e != api.OK {
			t.Errorf("%s: %s, %d in line %d, not %s", from, show(x), e, line, show(want))
		}
	}
}

// mayStand are the beginnings of theories, and the tokens that may stand behind each: a word or a mark as it is, N a name, 1 a number, " a text, $ the end.
func mayStand() map[string]string {
	const item = "input output rule $"
	const begin = `N 1 " ( - known true false`
	const operators = "= != < <= > >= + - * / % or and"
	const others = "+ - * / % or and"
	m := map[string]string{
		"": item, "# rule": item, "input": "N", "output": "N", "input q": ":", "output q": ":", "input q :": "int bool text", "output q :": "int bool text", "input q : int": ";", "output q : text": ";", "input q : bool ;": item,
		"rule": "N", "rule r": "1", "rule r 1": ":", "rule r 1 :": "if then", "rule r 1 : then": "N", "rule r 1 : then p": "=", "rule r 1 : if a then": "N", "rule r 1 : if a then p": "=", "rule r 1 : then p = 1 ;": item,
	}
	for front, behind := range map[string]string{"rule r 1 : if ": "then", "rule r 1 : then p = ": ";", "rule r 1 : if true then p = ": ";", "rule r 1 : then p = ( ": ")"} {
		for _, ahead := range []string{"", "not", "a or", "a and", "(", "a = b and", "( a ) or", "not not"} {
			m[front+ahead] = begin + " not"
		}
		for _, ahead := range []string{"-", "a +", "1 *", "a =", "a and b < ", "- -", "a %", "not a >=", "( a ) -"} {
			m[front+ahead] = begin
		}
		for _, whole := range []string{"a", "1", `"x"`, "true", "known a", "- a", "a + b", "( a )", "( a = b )", "not a", "a and b", "a = b or not c", "a * b"} {
			m[front+whole] = operators + " " + behind
		}
		for _, whole := range []string{"a = b", "a < b + c", "not a != b", "a and b >= 1", "a + b <= c", "( a = b ) > c"} {
			m[front+whole] = others + " " + behind
		}
		m[front+"known"], m[front+"a and known"] = "N", "N"
		m[front+"( a"], m[front+"not ( a"] = operators+" )", operators+" )"
	}
	return m
}

// TestP9_1Tokens reads each token wherever it may stand and wherever it may not: the first one that may not is told, whatever follows.
func TestP9_1Tokens(t *testing.T) {
	all := strings.Fields(words + " " + marks + ` N 1 " $`)
	as := map[string]string{"N": "x", `"`: `"x"`, "$": ""}
	for ahead, may := range mayStand() {
		for _, token := range all {
			s := token
			if spelled, is := as[token]; is {
				s = spelled
			}
			s = ahead + "\n# comment\n" + s
			if token == "$" {
				s += "\n"
			}
			at := 1 + strings.Count(s, "\n")
			if strings.Contains(" "+may+" ", " "+token+" ") {
				if x, line, e := dsl.Parse(s + " \n\n"); e != api.OK && (e != api.ErrSyntax || line != at+2) {
					t.Errorf("%s: %s, %d in line %d", tell(s), show(x), e, line)
				}
				continue
			}
			refuses(t, s, api.ErrSyntax, at)
			if token != "$" {
				for _, behind := range []string{"\n", "\n;", "\n$", "\n\xff", " 01", "\n\"", strings.Repeat("-", 40) + "a;"} {
					refuses(t, s+behind, api.ErrSyntax, at)
				}
			}
		}
	}
}

// TestP9_1Spoilt meets what is in no token, wherever that is: behind others, their lines and comments.
func TestP9_1Spoilt(t *testing.T) {
	spoilt := []string{"$", "!", "! =", "_", "_a", "A", "Input", "\x00", "\x7f", "\xff", "\u00e9", "\v", "\f", ".", ",", "'", "\\", "&", "[", "{", "|", "~", "@", "^", "`", "?", "01", "1a", "00", "0_", "4611686018427387905", strings.Repeat("9", 100), letters(31), `"`, `"a`, "\"a\nb\"", `"\n"`, "\"\xff\"", `"` + strings.Repeat("x", 101) + `"`, "\"\\", "\"\t\""}
	for ahead := range mayStand() {
		for _, s := range spoilt {
			for i, between := range []string{"\n", "\n\n# a\n", " \n#\n", "#\n", "\r\n\t", "\n# \xff 01 \"\n"} {
				front := ahead + between
				at := 1 + strings.Count(front, "\n")
				refuses(t, front+s, api.ErrSyntax, at)
				if i == 0 {
					refuses(t, front+s+"\n;\n$", api.ErrSyntax, at)
				}
			}
		}
	}
	for _, s := range spoilt {
		fails(t, s, api.ErrSyntax)
		fails(t, "a +\n"+s+"\n", api.ErrSyntax)
		fails(t, "a\n"+s+"\n", api.ErrSyntax)
	}
}

// TestP9_1Names30 reads names of 30 bytes and of 31, and words, in each place of a theory.
func TestP9_1Names30(t *testing.T) {
	for _, s := range []string{"input %:int;", "output %:int;", "rule % 1:then p=1;", "rule r 1:then % =1;", "rule r 1:if % then p=1;", "rule r 1:then p=known %;"} {
		theory(t, strings.ReplaceAll(s, "%", "\n"+letters(30)))
		for _, none := range append(strings.Fields(words), letters(31), "A", "_a", "1", `"a"`, "") {
			if strings.Contains(s, "if") && (none == "true" || none == "false" || none == "1" || none == `"a"`) {
				continue
			}
			refuses(t, strings.ReplaceAll(s, "%", "\n"+none), api.ErrSyntax, 2)
		}
	}
	for _, rank := range []string{"0", "7", "4611686018427387904"} {
		if x := theory(t, "rule r "+rank+":then p=1;"); strconv.Itoa(x.Rules[0].Rank) != rank {
			t.Errorf("%s: %s", rank, show(x))
		}
	}
	for _, rank := range []string{"4611686018427387905", "-1", "00", "01", "1a", `"1"`, "a", "(1)", "+1", ""} {
		refuses(t, "rule r \n"+rank+":then p=1;", api.ErrSyntax, 2)
	}
}

// TestP9_1Lines counts lines by newlines alone, wherever these stand.
func TestP9_1Lines(t *testing.T) {
	for s, at := range map[string]int{
		"x": 1, "\nx": 2, "\r\rx": 1, "\r\n\r\nx": 3, "#\n#\nx": 3, "\v": 1, "\u0085\n": 1, "# \\\nx": 2, "#x\n\n\n:": 4, "input q:int;\n\ninput q;int;": 3,
		"input q : int": 1, "input q : int\n": 2, "input q : int\n\n": 3, "input q : int # ;": 1, "input q : int # ;\n": 2, "input q : int\n#\n#\n# ;": 4, "input": 1, "input\r\n": 2, "rule r\n1\n:\nthen\np\n=\n": 7,
		"rule r 1 : then p = \"a\nb\" ;": 1, "rule r 1 : then p =\n\"a\n\" ;": 2, "rule r 1 : then p = 1\n2\n;": 2,
	} {
		refuses(t, s, api.ErrSyntax, at)
	}
	for _, n := range []int{1, 7, 1000, api.MaxText - 1} {
		refuses(t, strings.Repeat("\n", n)+"x", api.ErrSyntax, n+1)
	}
	r := rand.New(rand.NewPCG(9, 1))
	for range 300 {
		l := theoryPieces(r, anyTheory(r))
		front := joined(r, l) + "\n"
		theory(t, front)
		refuses(t, front+pick(r, "x", ";", "$", `"`, "1", "then")+anyBlanks(r), api.ErrSyntax, 1+strings.Count(front, "\n"))
		if len(l) > 0 {
			cut := joined(r, l[:len(l)-1])
			refuses(t, cut, api.ErrSyntax, 1+strings.Count(cut, "\n"))
		}
	}
}

// items are so many items, each in a line of its own.
func items(n int) string {
	var b strings.Builder
	for i := range n {
		b.WriteString([]string{"input a : int ;\n", "output b : text ;\n", "rule r 1 : if a then b = \"x\" ;\n", "rule s 2 : then b = a ;\n"}[i%4])
	}
	return b.String()
}

// TestP9_1Many reads as many items as there may be, and one more: that comes ahead of later faults, and behind earlier ones.
func TestP9_1Many(t *testing.T) {
	for _, s := range []string{items(100), strings.Repeat("input a:int;", 100), strings.Repeat("rule r 1:then p=1;", 100), strings.Repeat("output a:bool;", 99) + "rule r 1:then p=1;"} {
		if x := theory(t, s); len(x.Decls)+len(x.Rules) != 100 {
			t.Errorf("%s: %d", tell(s), len(x.Decls)+len(x.Rules))
		}
		theory(t, s+"\n# rule")
		at := 1 + strings.Count(s, "\n")
		for _, word := range []string{"input", "output", "rule"} {
			for _, behind := range []string{" a : int ;", "", "$", " 01", "\n\xff", " r 1:then p=1;", "\nrule"} {
				refuses(t, s+word+behind, api.ErrMany, at)
				refuses(t, s+"#\n\n"+word+behind, api.ErrMany, at+2)
			}
		}
		for _, first := range []string{"inputs", "x", ";", "1", "if", "$", letters(31), `"input"`, "01", "rule1"} {
			refuses(t, s+"\n"+first, api.ErrSyntax, at+1)
			refuses(t, s+"\n"+first+" input", api.ErrSyntax, at+1)
		}
	}
	deep := "rule r 1:then p=" + strings.Repeat("-", 32) + "a;\n"
	refuses(t, items(99)+deep+"rule", api.ErrDeep, 100)
	refuses(t, items(100)+deep, api.ErrMany, 101)
	refuses(t, items(99)+"rule r 1:then p=;\nrule", api.ErrSyntax, 100)
	refuses(t, items(50)+"$\n"+items(51), api.ErrSyntax, 51)
	refuses(t, items(50)+deep+items(51), api.ErrDeep, 51)
	refuses(t, items(500), api.ErrMany, 101)
}

// TestP9_1DeepLine meets expressions that are too deep in rules: their line is that of the token behind, whatever that is.
func TestP9_1DeepLine(t *testing.T) {
	deep := strings.Repeat("-", 32) + "a"
	for _, s := range []string{"rule r 1:then p=", "rule r 1:if a then p=", "rule r 1:if ", "rule r 1:then p=("} {
		whole := deep
		if strings.HasSuffix(s, "(") {
			whole += "\n)"
		}
		for _, between := range []string{"", "\n", "#\n\n", "\n# ;\n", "#", "\r"} {
			for _, behind := range []string{"", ";", "then p = 1;", ":", "x", "if", "$", "\xff", "\"", "01", ")", "1"} {
				if between == "" && behind != "" && behind != ";" && isWordly(behind[0]) || between == "#" && behind != "" {
					continue
				}
				refuses(t, s+whole+between+behind, api.ErrDeep, 1+strings.Count(whole+between, "\n"))
				if behind != "" {
					refuses(t, "\n"+s+whole+between+behind+"\n$", api.ErrDeep, 2+strings.Count(whole+between, "\n"))
				}
			}
		}
		refuses(t, s+"$\n"+deep+"\n;", api.ErrSyntax, 1)
		refuses(t, s+deep+"+\n\n$", api.ErrSyntax, 3)
		refuses(t, s+deep+"\n=\n;", api.ErrSyntax, 3)
		refuses(t, s+"("+deep+"\n;", api.ErrSyntax, 2)
	}
	refuses(t, "rule r 1:if "+deep+"\nthen p="+deep+"\n;", api.ErrDeep, 2)
	refuses(t, "rule r 1:if "+deep[1:]+"\nthen p="+deep+"\n\n;", api.ErrDeep, 4)
	refuses(t, "rule r 1:if "+deep[1:]+"\nthen p="+deep[1:]+"\n:", api.ErrSyntax, 3)
	theory(t, "rule r 1:if "+deep[1:]+"\nthen p="+deep[1:]+"\n;")
	refuses(t, "rule r 1:then p=\n(\n"+deep+"\n)\n+\nb\n;", api.ErrDeep, 7)
}

// TestP9_1Long reads texts of as many bytes as they may have, and of more.
func TestP9_1Long(t *testing.T) {
	item := "input q:int;"
	front := strings.Repeat("\n", api.MaxText-len(item))
	for _, s := range []string{front + item, item + front, "#" + strings.Repeat("x", api.MaxText-1), front + strings.Repeat(" ", len(item))} {
		theory(t, s)
		refuses(t, s+" ", api.ErrLong, 0)
		refuses(t, "$"+s, api.ErrLong, 0)
	}
	refuses(t, front+item[1:]+"$", api.ErrSyntax, len(front)+1)
	refuses(t, strings.Repeat("\xff", 1<<20), api.ErrLong, 0)
	refuses(t, strings.Repeat("input q:int;", 10000), api.ErrLong, 0)
}
