package dsl

import (
	"strconv"

	"exchequer/api"
)

// FormatExpr is an expression's text; or why it has none.
func FormatExpr(e Expr) (string, api.Errno) {
	if Depth(e) > api.MaxDepth {
		return "", api.ErrDeep
	}
	if !isFormed(e, map[*Expr]struct{}{}) {
		return "", api.ErrForm
	}
	return held(appendExpr(nil, e))
}

// Format is a theory's text; or why it has none.
func Format(t Theory) (string, api.Errno) {
	if len(t.Decls)+len(t.Rules) > api.MaxItems {
		return "", api.ErrMany
	}
	var b []byte
	for _, d := range t.Decls {
		if !isName(d.Name) || typeWord(d.Type) == "" {
			return "", api.ErrForm
		}
		b = appendDecl(b, d)
	}
	for _, r := range t.Rules {
		var e api.Errno
		if b, e = appendRule(b, r); e != api.OK {
			return "", e
		}
	}
	return held(b)
}

// held is a text that is written, if it is not too long.
func held(b []byte) (string, api.Errno) {
	if len(b) > api.MaxText {
		return "", api.ErrLong
	}
	return string(b), api.OK
}

// appendDecl appends a declaration's line.
func appendDecl(b []byte, d Decl) []byte {
	word := "input "
	if d.Output {
		word = "output "
	}
	return append(b, word+d.Name+" : "+typeWord(d.Type)+" ;\n"...)
}

// appendRule appends a rule's line; or tells why there is none.
func appendRule(b []byte, r Rule) ([]byte, api.Errno) {
	if !isName(r.Name) || !isName(r.Target) || !isNumber(r.Rank) {
		return nil, api.ErrForm
	}
	b = append(b, "rule "+r.Name+" "+strconv.Itoa(r.Rank)+" : "...)
	if !isNone(r.If) {
		s, e := FormatExpr(r.If)
		if e != api.OK {
			return nil, e
		}
		b = append(b, "if "+s+" "...)
	}
	s, e := FormatExpr(r.Then)
	if e != api.OK {
		return nil, e
	}
	return append(b, "then "+r.Target+" = "+s+" ;\n"...), api.OK
}

// isNone: is it no expression at all, as a rule has it that always holds?
func isNone(e Expr) bool { return e.Op == 0 && e.N == 0 && e.S == "" && len(e.Args) == 0 }

// isNumber: may a number be so great?
func isNumber(n int) bool { return 0 <= n && n <= api.MaxUnits }

// isFormed: has it the form that its Op asks, and all within it that was not looked at yet? One that stands in many places is looked at once, as in depth.
func isFormed(e Expr, seen map[*Expr]struct{}) bool {
	if !isOwnFormed(e) {
		return false
	}
	for i := range e.Args {
		x := &e.Args[i]
		if _, is := seen[x]; is {
			continue
		}
		seen[x] = struct{}{}
		if !isFormed(*x, seen) {
			return false
		}
	}
	return true
}

// isOwnFormed: has it the form that its Op asks, whatever its Args are?
func isOwnFormed(e Expr) bool {
	if e.Op < ENum || e.Op > ENeg || len(e.Args) != kinds[e.Op].args {
		return false
	}
	switch e.Op {
	case ENum:
		return e.S == "" && isNumber(e.N)
	case EText:
		return e.N == 0 && isWithin(e.S)
	case EBool:
		return e.S == "" && (e.N == 0 || e.N == 1)
	case EName, EKnown:
		return e.N == 0 && isName(e.S)
	}
	return e.N == 0 && e.S == ""
}

// appendExpr appends an expression's text. What is too long already goes no further, as what is refused may have no end that could be waited for.
func appendExpr(b []byte, e Expr) []byte {
	if len(b) > api.MaxText {
		return b
	}
	switch e.Op {
	case ENum:
		return strconv.AppendInt(b, int64(e.N), 10)
	case EText:
		return appendText(b, e.S)
	case EBool:
		return strconv.AppendBool(b, e.N == 1)
	case EName:
		return append(b, e.S...)
	case EKnown:
		return append(b, "known "+e.S...)
	case ENot:
		return appendOperand(append(b, "not "...), e.Args[0], bindsNot)
	case ENeg:
		return appendOperand(append(b, '-'), e.Args[0], bindsFactor)
	}
	k := kinds[e.Op]
	least := k.binds
	// Comparisons do not stand in a row.
	if least == bindsCompare {
		least++
	}
	b = appendOperand(b, e.Args[0], least)
	b = append(b, " "+k.mark+" "...)
	return appendOperand(b, e.Args[1], k.binds+1)
}

// appendOperand appends an operand's text, within parentheses if it binds less than that.
func appendOperand(b []byte, e Expr, least int) []byte {
	if kinds[e.Op].binds >= least {
		return appendExpr(b, e)
	}
	return append(appendExpr(append(b, '('), e), ')')
}

// appendText appends a text between quotes.
func appendText(b []byte, s string) []byte {
	b = append(b, '"')
	for i := range len(s) {
		if s[i] == '"' || s[i] == '\\' {
			b = append(b, '\\')
		}
		b = append(b, s[i])
	}
	return append(b, '"')
}
