package dsl

import "exchequer/api"

// fault is what ends the reading, thrown from where it is found.
type fault struct {
	line int
	e    api.Errno
}

// reader reads tokens, of which those ahead of at are read. The last one is never read: nothing takes the end or what is spoilt.
type reader struct {
	tokens []token
	at     int
}

// read is what a text means to one who reads its tokens; or its first fault's line and error.
func read[T any](s string, whole func(*reader) T) (x T, line int, e api.Errno) {
	if len(s) > api.MaxText {
		return x, 0, api.ErrLong
	}
	defer func() {
		if f, is := recover().(fault); is {
			line, e = f.line, f.e
		}
	}()
	r := &reader{}
	for t := range tokens(s) {
		r.tokens = append(r.tokens, t)
	}
	return whole(r), 0, api.OK
}

// theory reads items up to the end.
func (r *reader) theory() Theory {
	var t Theory
	for r.here().kind != atEnd {
		switch first := r.here(); {
		case !first.is("input") && !first.is("output") && !first.is("rule"):
			panic(r.fault(api.ErrSyntax))
		case len(t.Decls)+len(t.Rules) >= api.MaxItems:
			panic(r.fault(api.ErrMany))
		case first.is("rule"):
			t.Rules = append(t.Rules, r.rule())
		default:
			t.Decls = append(t.Decls, r.decl())
		}
	}
	return t
}

// decl reads a declaration.
func (r *reader) decl() Decl {
	output := !r.takes("input")
	if output {
		r.sign("output")
	}
	d := Decl{Name: r.token(aName).s, Output: output}
	r.sign(":")
	d.Type = r.typed()
	r.sign(";")
	return d
}

// typed reads a type.
func (r *reader) typed() int {
	for t := TInt; t <= TText; t++ {
		if r.takes(typeWord(t)) {
			return t
		}
	}
	panic(r.fault(api.ErrSyntax))
}

// rule reads a rule.
func (r *reader) rule() Rule {
	r.sign("rule")
	x := Rule{Name: r.token(aName).s, Rank: r.token(aNumber).n}
	r.sign(":")
	if r.takes("if") {
		x.If = r.expression()
	}
	r.sign("then")
	x.Target = r.token(aName).s
	r.sign("=")
	x.Then = r.expression()
	r.sign(";")
	return x
}

// alone reads an expression behind which there is nothing.
func (r *reader) alone() Expr {
	x := r.expression()
	if r.here().kind != atEnd {
		panic(r.fault(api.ErrSyntax))
	}
	return x
}

// expression reads an expression, of no more levels than may be.
func (r *reader) expression() Expr {
	x := r.joined(bindsOr)
	if Depth(x) > api.MaxDepth {
		panic(r.fault(api.ErrDeep))
	}
	return x
}

// joined reads operands with two-sided operators between that bind at least so strongly. It does for all of the grammar's rules from `or` to `term`: a function for each, one within the other, would take much more room where parentheses stand within parentheses.
func (r *reader) joined(least int) Expr {
	x, most := r.operand(least)
	for op := r.operator(least, most); op != 0; op = r.operator(least, most) {
		binds := kinds[op].binds
		x = Expr{Op: op, Args: []Expr{x, r.joined(binds + 1)}}
		most = binds
		// Comparisons do not stand in a row.
		if binds == bindsCompare {
			most--
		}
	}
	return x
}

// operand reads the first operand, and tells how strongly an operator behind it may bind at most.
func (r *reader) operand(least int) (Expr, int) {
	if least <= bindsNot && r.takes("not") {
		return Expr{Op: ENot, Args: []Expr{r.joined(bindsNot)}}, bindsAnd
	}
	return r.factor(), bindsTerm
}

// factor reads a factor.
func (r *reader) factor() Expr {
	switch t := r.here(); {
	case r.takes("known"):
		return Expr{Op: EKnown, S: r.token(aName).s}
	case r.takes("-"):
		return Expr{Op: ENeg, Args: []Expr{r.factor()}}
	case r.takes("("):
		x := r.joined(bindsOr)
		r.sign(")")
		return x
	case r.takes("true"):
		return Expr{Op: EBool, N: 1}
	case r.takes("false"):
		return Expr{Op: EBool}
	case t.kind == aNumber:
		r.at++
		return Expr{Op: ENum, N: t.n}
	case t.kind == aText:
		r.at++
		return Expr{Op: EText, S: t.s}
	}
	return Expr{Op: EName, S: r.token(aName).s}
}

// operator reads a two-sided operator that binds so strongly at least and at most, if it is there: its Op, or 0.
func (r *reader) operator(least, most int) int {
	for op, k := range kinds {
		if k.args == 2 && least <= k.binds && k.binds <= most && r.takes(k.mark) {
			return op
		}
	}
	return 0
}

// takes reads a word or a mark, if it is there.
func (r *reader) takes(s string) bool {
	is := r.here().is(s)
	if is {
		r.at++
	}
	return is
}

// sign reads a word or a mark.
func (r *reader) sign(s string) {
	if !r.takes(s) {
		panic(r.fault(api.ErrSyntax))
	}
}

// token reads a token of a kind.
func (r *reader) token(kind int) token {
	t := r.here()
	if t.kind != kind {
		panic(r.fault(api.ErrSyntax))
	}
	r.at++
	return t
}

// here is the token to be read next.
func (r *reader) here() token { return r.tokens[r.at] }

// fault is that of the token to be read next.
func (r *reader) fault(e api.Errno) fault { return fault{r.here().line, e} }
