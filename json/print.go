package json

import (
	"slices"
	"unicode/utf8"

	"exchequer/api"
)

// hexDigits are the digits of base 16.
const hexDigits = "0123456789abcdef"

// Print is a value's text, in the one form: without blanks, members by rising names; or why it has none.
func Print(v Value) ([]byte, api.Errno) {
	if e := errorOf(v, 0); e != api.OK {
		return nil, e
	}
	b := appendValue(nil, v)
	if len(b) > api.MaxText {
		return nil, api.ErrLong
	}
	return b, api.OK
}

// Quote is a text between quotes.
func Quote(s string) string { return string(appendQuoted(nil, s)) }

// errorOf tells why a value that stands within so many others may not be printed: its own error comes ahead of its elements'.
func errorOf(v Value, depth int) api.Errno {
	if e := ownError(v, depth); e != api.OK || !hasElements(v) {
		return e
	}
	for _, x := range v.List {
		if e := errorOf(x, depth+1); e != api.OK {
			return e
		}
	}
	return api.OK
}

// ownError tells why a value may not be printed, whatever its elements are.
func ownError(v Value, depth int) api.Errno {
	switch {
	case v.Kind < Null || v.Kind > Object:
		return api.ErrKind
	case !isFormed(v):
		return api.ErrForm
	case !hasElements(v):
		return api.OK
	case depth >= api.MaxDepth:
		return api.ErrDeep
	case len(v.List) > api.MaxMembers:
		return api.ErrMany
	case v.Kind == Object && isTwice(v.Names):
		return api.ErrTwice
	}
	return api.OK
}

// hasElements: is it of a kind whose values have elements?
func hasElements(v Value) bool { return v.Kind == Array || v.Kind == Object }

// isFormed: are its fields of the form that its kind asks?
func isFormed(v Value) bool {
	switch v.Kind {
	case Number:
		return isLiteral(v.Text)
	case String:
		return utf8.ValidString(v.Text)
	case Object:
		return len(v.Names) == len(v.List) && !slices.ContainsFunc(v.Names, func(s string) bool { return !utf8.ValidString(s) })
	}
	return true
}

// isTwice: does a name stand behind the same one?
func isTwice(names []string) bool {
	order := rising(names)
	for k := 1; k < len(order); k++ {
		if names[order[k-1]] == names[order[k]] {
			return true
		}
	}
	return false
}

// appendValue appends a value's text. What is too long already goes no further, so that a text that is refused takes little more room than one that isn't.
func appendValue(b []byte, v Value) []byte {
	if len(b) > api.MaxText {
		return b
	}
	switch v.Kind {
	case False:
		return append(b, "false"...)
	case True:
		return append(b, "true"...)
	case Number:
		return append(b, v.Text...)
	case String:
		return appendQuoted(b, v.Text)
	case Array:
		return appendElements(b, v)
	case Object:
		return appendMembers(b, v)
	}
	return append(b, "null"...)
}

// appendElements appends an Array's text.
func appendElements(b []byte, v Value) []byte {
	b = append(b, '[')
	for i, x := range v.List {
		if i > 0 {
			b = append(b, ',')
		}
		b = appendValue(b, x)
	}
	return append(b, ']')
}

// appendMembers appends an Object's text.
func appendMembers(b []byte, v Value) []byte {
	b = append(b, '{')
	for k, i := range rising(v.Names) {
		if k > 0 {
			b = append(b, ',')
		}
		b = appendValue(b, Value{Kind: String, Text: v.Names[i]})
		b = append(b, ':')
		b = appendValue(b, v.List[i])
	}
	return append(b, '}')
}

// appendQuoted appends a text between quotes.
func appendQuoted(b []byte, s string) []byte {
	b = append(b, '"')
	for i := range len(s) {
		switch c := s[i]; {
		case c == '"' || c == '\\':
			b = append(b, '\\', c)
		case c < ' ' || c == 0x7F:
			b = append(b, '\\', 'u', '0', '0', hexDigits[c>>4], hexDigits[c&15])
		default:
			b = append(b, c)
		}
	}
	return append(b, '"')
}
