package vm

import (
	"strings"

	"exchequer/api"
	"exchequer/dsl"
)

// maxText is how many bytes a fact's text has at most.
const maxText = 200

// value is that of an expression; its zero value is none.
type value struct {
	is bool   // it is not none
	n  int    // an int; of a bool, 1 or 0
	s  string // a text
}

// number is an int's value.
func number(n int) value { return value{is: true, n: n} }

// truth is a bool's value.
func truth(b bool) value {
	if b {
		return number(1)
	}
	return number(0)
}

// Int is an int's fact.
func Int(name string, n int) Fact {
	return Fact{Name: strings.Clone(name), Type: dsl.TInt, N: n}
}

// Bool is a bool's fact.
func Bool(name string, b bool) Fact {
	return Fact{Name: strings.Clone(name), Type: dsl.TBool, N: truth(b).n}
}

// Text is a text's fact.
func Text(name, s string) Fact {
	return Fact{Name: strings.Clone(name), Type: dsl.TText, S: strings.Clone(s)}
}

// taken are the values that facts give to what is declared; or the first fault.
func taken(facts []Fact, decls []dsl.Decl) ([]value, api.Errno) {
	if len(facts) > api.MaxFacts {
		return nil, api.ErrMany
	}
	values := make([]value, len(decls))
	for _, f := range facts {
		at, is := place(decls, f.Name)
		switch {
		case !is || decls[at].Output:
			return nil, api.ErrUnknown
		case values[at].is:
			return nil, api.ErrTwice
		case decls[at].Type != f.Type:
			return nil, api.ErrType
		}
		var e api.Errno
		if values[at], e = valued(f); e != api.OK {
			return nil, e
		}
	}
	return values, api.OK
}

// valued is the value of a fact of one of the types; or why it has none. What its type does not name is left behind.
func valued(f Fact) (value, api.Errno) {
	least, most := -api.MaxUnits, api.MaxUnits
	switch f.Type {
	case dsl.TText:
		if len(f.S) > maxText {
			return value{}, api.ErrLong
		}
		return value{is: true, s: f.S}, api.OK
	case dsl.TBool:
		least, most = 0, 1
	}
	if f.N < least || f.N > most {
		return value{}, api.ErrRange
	}
	return number(f.N), api.OK
}

// concluded are the values of outputs, as facts in new memory, by rising names.
func concluded(values []value, decls []dsl.Decl) []Fact {
	var l []Fact
	for i, d := range decls {
		if v := values[i]; d.Output && v.is {
			l = append(l, Fact{strings.Clone(d.Name), d.Type, v.n, strings.Clone(v.s)})
		}
	}
	return l
}
