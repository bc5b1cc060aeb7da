package dsl

import (
	"iter"
	"strconv"
	"strings"

	"exchequer/api"
)

const (
	maxName   = 30  // bytes of a name
	maxWithin = 100 // bytes within a text
)

// The kinds of tokens.
const (
	atEnd  = iota // the text's end
	spoilt        // what is in no token, or too long or too great for one
	aSign         // a word or a mark
	aName
	aNumber
	aText
)

// token is a piece of a text, between blanks and comments.
type token struct {
	kind int
	s    string // a sign, or a name, or the bytes within a text
	n    int    // a number
	line int    // where it begins
}

// is: is it that word or mark?
func (t token) is(s string) bool { return t.kind == aSign && t.s == s }

// tokens goes over the tokens of a text. The last one is the end, or what is spoilt.
func tokens(s string) iter.Seq[token] {
	return func(yield func(token) bool) {
		line, rest := 1, s
		for {
			front := blanks(rest)
			line += strings.Count(rest[:front], "\n")
			rest = rest[front:]
			t, size := first(rest)
			t.line = line
			if !yield(t) || t.kind == atEnd || t.kind == spoilt {
				return
			}
			rest = rest[size:]
		}
	}
}

// blanks is how many bytes of blanks and comments a text begins with.
func blanks(s string) int {
	at, comment := 0, false
	for at < len(s) && (comment || strings.IndexByte(" \t\r\n#", s[at]) >= 0) {
		comment = s[at] != '\n' && (comment || s[at] == '#')
		at++
	}
	return at
}

// first is the token that a text begins with, and how many bytes that has.
func first(s string) (token, int) {
	if s == "" {
		return token{kind: atEnd}, 0
	}
	switch c := s[0]; {
	case isLetter(c):
		return firstWord(s)
	case isDigit(c):
		return firstNumber(s)
	case c == '"':
		return firstText(s)
	}
	return firstMark(s)
}

// firstWord is the word or the name that a text begins with.
func firstWord(s string) (token, int) {
	size := run(s)
	switch front := s[:size]; {
	case isWord(front):
		return token{kind: aSign, s: front}, size
	case isName(front):
		return token{kind: aName, s: strings.Clone(front)}, size
	}
	return token{kind: spoilt}, 0
}

// firstNumber is the number that a text begins with.
func firstNumber(s string) (token, int) {
	// What a name could go on with is taken along, so that a number that goes on so is none.
	size := run(s)
	n, err := strconv.Atoi(s[:size])
	if err != nil || n > api.MaxUnits || s[0] == '0' && size > 1 {
		return token{kind: spoilt}, 0
	}
	return token{kind: aNumber, n: n}, size
}

// firstText is the text between quotes that a text begins with.
func firstText(s string) (token, int) {
	var b []byte
	at := 1
	for ; at < len(s) && s[at] != '"'; at++ {
		if s[at] == '\\' {
			at++
			if at == len(s) || s[at] != '"' && s[at] != '\\' {
				return token{kind: spoilt}, 0
			}
		}
		b = append(b, s[at])
	}
	if at == len(s) || !isWithin(string(b)) {
		return token{kind: spoilt}, 0
	}
	return token{kind: aText, s: string(b)}, at + 1
}

// firstMark is the mark that a text begins with, the longer one of two.
func firstMark(s string) (token, int) {
	for _, size := range [...]int{2, 1} {
		if size <= len(s) && isMark(s[:size]) {
			return token{kind: aSign, s: s[:size]}, size
		}
	}
	return token{kind: spoilt}, 0
}

// run is how many bytes at a text's beginning a name could go on with.
func run(s string) int {
	at := 0
	for at < len(s) && (isLetter(s[at]) || isDigit(s[at]) || s[at] == '_') {
		at++
	}
	return at
}

// isLetter: is it a letter, as names have them?
func isLetter(c byte) bool { return 'a' <= c && c <= 'z' }

// isDigit: is it a digit?
func isDigit(c byte) bool { return '0' <= c && c <= '9' }

// isName: is it a name?
func isName(s string) bool {
	return s != "" && len(s) <= maxName && isLetter(s[0]) && run(s) == len(s) && !isWord(s)
}

// isWithin: may that stand within a text's quotes, but for the escapes?
func isWithin(s string) bool {
	for i := range len(s) {
		if s[i] < ' ' || s[i] > '~' {
			return false
		}
	}
	return len(s) <= maxWithin
}

// isWord: is it one of the words that are no names?
func isWord(s string) bool {
	switch s {
	case "input", "output", "rule", "if", "then", "or", "and", "not", "known", "true", "false", "int", "bool", "text":
		return true
	}
	return false
}

// isMark: is it a mark?
func isMark(s string) bool {
	switch s {
	case "=", "!=", "<", "<=", ">", ">=", "+", "-", "*", "/", "%", "(", ")", ":", ";":
		return true
	}
	return false
}
