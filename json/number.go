package json

import "strings"

// maxLiteral is how many bytes a number's literal may have.
const maxLiteral = 40

// literalEnd is where the literal that begins at a place ends; if it is none: the place of the byte that cannot stand in it, or of the text's end, and false.
func literalEnd(s string, at int) (int, bool) {
	if isOf("-", s, at) {
		at++
	}
	from := at
	// Behind a 0 no digit is the literal's.
	if at = digitsEnd(s, from); at > from && s[from] == '0' {
		at = from + 1
	}
	if at == from {
		return at, false
	}
	if isOf(".", s, at) {
		from = at + 1
		if at = digitsEnd(s, from); at == from {
			return at, false
		}
	}
	if isOf("eE", s, at) {
		from = at + 1
		if isOf("+-", s, from) {
			from++
		}
		if at = digitsEnd(s, from); at == from {
			return at, false
		}
	}
	return at, true
}

// isLiteral: is a text a literal, and nothing besides?
func isLiteral(s string) bool {
	end, whole := literalEnd(s, 0)
	return whole && end == len(s) && end <= maxLiteral
}

// isWhole: is a text a whole number's, without 0 ahead, and not -0?
func isWhole(s string) bool {
	digits := strings.TrimPrefix(s, "-")
	if digits == "" || digitsEnd(digits, 0) < len(digits) {
		return false
	}
	return digits[0] != '0' || s == "0"
}

// digitsEnd is where the digits end that begin at a place.
func digitsEnd(s string, at int) int {
	for isOf("0123456789", s, at) {
		at++
	}
	return at
}

// isOf: does one of those bytes stand at a place of a text?
func isOf(bytes, s string, at int) bool {
	return at < len(s) && strings.IndexByte(bytes, s[at]) >= 0
}
