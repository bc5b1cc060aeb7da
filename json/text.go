package json

import (
	"unicode/utf8"

	"exchequer/api"
)

// The surrogates: the high ones begin at highs, the low ones at lows, and what is no surrogate goes on at beyond.
const (
	highs  = 0xD800
	lows   = 0xDC00
	beyond = 0xE000
)

// quoted reads a string, and its quotes: its bytes.
func (r *reader) quoted() string {
	r.at++
	var b []byte
	for {
		switch c := r.here(); {
		case c == '"':
			r.at++
			return string(b)
		case c == '\\':
			b = r.escape(b)
		case c < ' ':
			panic(fault{r.at, api.ErrSyntax})
		default:
			b = r.character(b)
		}
	}
}

// character reads a character as it stands, and appends it.
func (r *reader) character(b []byte) []byte {
	rest := r.text[r.at:]
	c, size := utf8.DecodeRuneInString(rest)
	if c == utf8.RuneError && size == 1 {
		// What may become a sequence yet is cut by the end, and that is where it fails.
		if !utf8.FullRuneInString(rest) {
			panic(fault{len(r.text), api.ErrSyntax})
		}
		panic(fault{r.at, api.ErrSyntax})
	}
	r.at += size
	return append(b, rest[:size]...)
}

// escape reads an escape, and appends what it stands for.
func (r *reader) escape(b []byte) []byte {
	from := r.at
	r.at++
	c := r.here()
	r.at++
	switch c {
	case '"', '\\', '/':
		return append(b, c)
	case 'b':
		return append(b, '\b')
	case 'f':
		return append(b, '\f')
	case 'n':
		return append(b, '\n')
	case 'r':
		return append(b, '\r')
	case 't':
		return append(b, '\t')
	case 'u':
		return utf8.AppendRune(b, r.codePoint(from))
	}
	panic(fault{from, api.ErrSyntax})
}

// codePoint reads what follows `\u`: four digits, and the low surrogate behind them if they are a high one. Its faults are those of the escape that began at from.
func (r *reader) codePoint(from int) rune {
	c := r.unit(from)
	if c < highs || c >= beyond {
		return c
	}
	if c >= lows {
		panic(fault{from, api.ErrSyntax})
	}
	for _, mark := range []byte{'\\', 'u'} {
		if r.here() != mark {
			panic(fault{from, api.ErrSyntax})
		}
		r.at++
	}
	low := r.unit(from)
	if low < lows || low >= beyond {
		panic(fault{from, api.ErrSyntax})
	}
	return 0x10000 + (c-highs)<<10 + (low - lows)
}

// unit reads the four digits of an escape that began at from.
func (r *reader) unit(from int) rune {
	c := rune(0)
	for range 4 {
		digit := digitOf(r.here())
		if digit < 0 {
			panic(fault{from, api.ErrSyntax})
		}
		c = 16*c + digit
		r.at++
	}
	return c
}

// digitOf is what a digit of base 16 says; below 0 if it is none.
func digitOf(c byte) rune {
	switch {
	case '0' <= c && c <= '9':
		return rune(c - '0')
	case 'a' <= c && c <= 'f':
		return rune(c-'a') + 10
	case 'A' <= c && c <= 'F':
		return rune(c-'A') + 10
	}
	return -1
}
