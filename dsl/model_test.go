package dsl_test

import (
	"slices"
	"strings"
	"testing"

	"exchequer/api"
	"exchequer/dsl"
)

// layers are the two-sided operators, from those that bind least; those of the third stand between two alone.
var layers = [][]string{{"or"}, {"and"}, {"=", "!=", "<", "<=", ">", ">="}, {"+", "-"}, {"*", "/", "%"}}

// ops are the two-sided operators' Ops.
var ops = map[string]int{"or": dsl.EOr, "and": dsl.EAnd, "=": dsl.EEq, "!=": dsl.ENe, "<": dsl.ELt, "<=": dsl.ELe, ">": dsl.EGt, ">=": dsl.EGe, "+": dsl.EAdd, "-": dsl.ESub, "*": dsl.EMul, "/": dsl.EDiv, "%": dsl.EMod}

// meaning is the expression that tokens are by the grammar's rule of a layer, found by trying all ways to part them; false if they are none.
func meaning(l []string, layer int) (dsl.Expr, bool) {
	if layer == 2 && len(l) > 0 && l[0] == "not" {
		x, is := meaning(l[1:], 2)
		return op(dsl.ENot, x), is
	}
	if layer == len(layers) {
		return factor(l)
	}
	for i, s := range slices.Backward(l) {
		if !slices.Contains(layers[layer], s) {
			continue
		}
		left := layer
		if layer == 2 {
			left++
		}
		x, is := meaning(l[:i], left)
		y, too := meaning(l[i+1:], layer+1)
		if is && too {
			return op(ops[s], x, y), true
		}
	}
	return meaning(l, layer+1)
}

// factor is the expression that tokens are by the grammar's last rule.
func factor(l []string) (dsl.Expr, bool) {
	switch {
	case len(l) == 1 && l[0] == "a":
		return name("a"), true
	case len(l) == 1 && l[0] == "1":
		return num(1), true
	case len(l) == 2 && l[0] == "known" && l[1] == "a":
		return known("a"), true
	case len(l) > 1 && l[0] == "-":
		x, is := factor(l[1:])
		return op(dsl.ENeg, x), is
	case len(l) > 2 && l[0] == "(" && l[len(l)-1] == ")":
		return meaning(l[1:len(l)-1], 0)
	}
	return dsl.Expr{}, false
}

// goesOn: do tokens become an expression, if others follow? If so, then with a name and the parentheses that are open.
func goesOn(l []string) bool {
	open := 0
	for _, s := range l {
		open += strings.Count(s, "(") - strings.Count(s, ")")
	}
	if open < 0 {
		return false
	}
	closed := slices.Repeat([]string{")"}, open)
	_, is := meaning(slices.Concat(l, closed), 0)
	_, too := meaning(slices.Concat(l, []string{"a"}, closed), 0)
	return is || too
}

// TestP9_1AllShort holds what is read against the grammar for all rows of tokens, up to the first one that cannot stand there: each in a line of its own, so that the line tells which.
func TestP9_1AllShort(t *testing.T) {
	for alphabet, most := range map[string]int{"a not - or and = + * ( )": 6, "a 1 known - % ( )": 7, "a not or = !=": 8, "a - + / < >= (": 7} {
		shorter(t, strings.Fields(alphabet), nil, most)
	}
}

// shorter holds what is read against the grammar for a row of tokens that goes on, and for longer ones.
func shorter(t *testing.T, alphabet, l []string, most int) {
	x, is := meaning(l, 0)
	s := ""
	for _, token := range l {
		s += token + "\n"
	}
	rule := "rule r 1:then p=\n" + s
	if is {
		reads(t, s, x)
	} else {
		fails(t, s, api.ErrSyntax)
		refuses(t, rule+";", api.ErrSyntax, len(l)+2)
	}
	if len(l) == most {
		return
	}
	for _, next := range alphabet {
		if longer := slices.Concat(l, []string{next}); goesOn(longer) {
			shorter(t, alphabet, longer, most)
			continue
		}
		for _, behind := range []string{"", " a", "\n)", "\n\n;", "\n$"} {
			fails(t, s+next+behind, api.ErrSyntax)
			refuses(t, rule+next+behind, api.ErrSyntax, len(l)+2)
		}
	}
}
