package json

import (
	"slices"
	"strings"

	"exchequer/api"
)

// fault is what ends the reading, thrown from where it is found.
type fault struct {
	place int
	e     api.Errno
}

// reader reads a text, of which the bytes ahead of at are read.
type reader struct {
	text string
	at   int
}

// Parse is the value of a text; or its first fault's place and error.
func Parse(b []byte) (v Value, place int, e api.Errno) {
	if len(b) > api.MaxText {
		return Value{}, 0, api.ErrLong
	}
	defer func() {
		if f, is := recover().(fault); is {
			v, place, e = Value{}, f.place, f.e
		}
	}()
	r := reader{text: string(b)}
	v = r.value(0, 0)
	if r.blanks(); r.at < len(r.text) {
		panic(fault{r.at, api.ErrSyntax})
	}
	return v, 0, api.OK
}

// value reads a value that stands within so many others, and behind so many elements of its array.
func (r *reader) value(depth, ahead int) Value {
	kind := r.kind()
	r.limits(kind, depth, ahead)
	switch kind {
	case Null:
		r.word("null")
	case False:
		r.word("false")
	case True:
		r.word("true")
	case Number:
		return Value{Kind: Number, Text: r.literal()}
	case String:
		return Value{Kind: String, Text: r.quoted()}
	case Array:
		return Value{Kind: Array, List: r.elements(depth + 1)}
	case Object:
		names, list := r.members(depth + 1)
		return Value{Kind: Object, List: list, Names: names}
	}
	return Value{Kind: kind}
}

// kind is that of the value that begins behind blanks.
func (r *reader) kind() int {
	r.blanks()
	switch c := r.here(); c {
	case 'n':
		return Null
	case 'f':
		return False
	case 't':
		return True
	case '"':
		return String
	case '[':
		return Array
	case '{':
		return Object
	default:
		if c != '-' && (c < '0' || c > '9') {
			panic(fault{r.at, api.ErrSyntax})
		}
		return Number
	}
}

// limits finds whether the value that begins here is beyond a limit. All of these faults have its beginning as their place, so that they are looked for in the order in which the chapter names them.
func (r *reader) limits(kind, depth, ahead int) {
	if kind == Number && r.isLong() {
		panic(fault{r.at, api.ErrLong})
	}
	if (kind == Array || kind == Object) && depth >= api.MaxDepth {
		panic(fault{r.at, api.ErrDeep})
	}
	if ahead >= api.MaxMembers {
		panic(fault{r.at, api.ErrMany})
	}
}

// isLong: is the literal that begins here too long? One with a fault within is none, as that fault comes ahead.
func (r *reader) isLong() bool {
	end, whole := literalEnd(r.text, r.at)
	return whole && end-r.at > maxLiteral
}

// elements reads an array's elements, and its brackets.
func (r *reader) elements(depth int) []Value {
	r.at++
	if r.ends(']') {
		return nil
	}
	var list []Value
	for {
		list = append(list, r.value(depth, len(list)))
		if r.ends(']') {
			return list
		}
		r.mark(',')
	}
}

// members reads an object's members, and its brackets.
func (r *reader) members(depth int) ([]string, []Value) {
	r.at++
	if r.ends('}') {
		return nil, nil
	}
	var names []string
	var list []Value
	for {
		names = append(names, r.name(names))
		r.mark(':')
		list = append(list, r.value(depth, 0))
		if r.ends('}') {
			return names, list
		}
		r.mark(',')
	}
}

// name reads the name of a member behind those of other names.
func (r *reader) name(ahead []string) string {
	r.blanks()
	from := r.at
	if r.here() != '"' {
		panic(fault{from, api.ErrSyntax})
	}
	if len(ahead) >= api.MaxMembers {
		panic(fault{from, api.ErrMany})
	}
	s := r.quoted()
	if slices.Contains(ahead, s) {
		panic(fault{from, api.ErrTwice})
	}
	return s
}

// literal reads a number's literal.
func (r *reader) literal() string {
	from := r.at
	end, whole := literalEnd(r.text, from)
	if !whole {
		panic(fault{end, api.ErrSyntax})
	}
	r.at = end
	return strings.Clone(r.text[from:end])
}

// word reads a word, byte by byte.
func (r *reader) word(s string) {
	for i := range len(s) {
		if r.here() != s[i] {
			panic(fault{r.at, api.ErrSyntax})
		}
		r.at++
	}
}

// mark reads a mark behind blanks.
func (r *reader) mark(c byte) {
	r.blanks()
	if r.here() != c {
		panic(fault{r.at, api.ErrSyntax})
	}
	r.at++
}

// ends reads a bracket behind blanks, if that is there.
func (r *reader) ends(bracket byte) bool {
	r.blanks()
	if r.here() != bracket {
		return false
	}
	r.at++
	return true
}

// blanks reads blanks, as many as there are.
func (r *reader) blanks() {
	for isOf(" \t\n\r", r.text, r.at) {
		r.at++
	}
}

// here is the byte to be read next.
func (r *reader) here() byte {
	if r.at >= len(r.text) {
		panic(fault{len(r.text), api.ErrSyntax})
	}
	return r.text[r.at]
}
