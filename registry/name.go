package registry

import (
	"strings"

	"exchequer/api"
)

// maxName is how many bytes a name has at most.
const maxName = 30

// ValidName tells whether a name may be.
func ValidName(s string) bool {
	return s != "" && len(s) <= maxName && isLetter(rune(s[0])) && !strings.ContainsFunc(s, isForeign)
}

// isLetter: may a name begin so?
func isLetter(c rune) bool { return 'a' <= c && c <= 'z' }

// isForeign: is it nothing that may stand in a name?
func isForeign(c rune) bool { return !isLetter(c) && (c < '0' || c > '9') && c != '-' }

// fault is why there can be no such set, or no such instant.
func fault(set string, at int) api.Errno {
	switch {
	case !ValidName(set):
		return api.ErrName
	case at < 0 || at > api.MaxInstant:
		return api.ErrRange
	}
	return api.OK
}
