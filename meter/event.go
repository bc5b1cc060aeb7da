package meter

import (
	"strings"

	"exchequer/api"
	"exchequer/registry"
)

const (
	maxKey = 40      // bytes of an event's key
	maxQty = 1 << 40 // an event's quantity
)

// Check tells whether an event may be.
func Check(e Event) api.Errno {
	switch {
	case !isKey(e.Key) || !registry.ValidName(e.Account) || !registry.ValidName(e.Meter):
		return api.ErrName
	case e.Qty < 0 || e.Qty > maxQty || e.At < 0 || e.At > api.MaxInstant:
		return api.ErrRange
	}
	return api.OK
}

// isKey: may an event have it?
func isKey(s string) bool {
	return s != "" && len(s) <= maxKey && !strings.ContainsFunc(s, isForeign)
}

// isForeign: is it nothing that may stand in a key?
func isForeign(c rune) bool { return c < '!' || c > '~' }

// fault is why there can be no events of such an account, or from one such instant on, below the other.
func fault(account string, from, to int) api.Errno {
	switch {
	case !registry.ValidName(account):
		return api.ErrName
	// A time that is to hold the last instant ends behind it.
	case from < 0 || to < from || to > api.MaxInstant+1:
		return api.ErrRange
	}
	return api.OK
}

// copied is the same in new memory.
func copied(e Event) Event {
	e.Key, e.Account, e.Meter = strings.Clone(e.Key), strings.Clone(e.Account), strings.Clone(e.Meter)
	return e
}
