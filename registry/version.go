package registry

import (
	"strings"
	"sync"

	"exchequer/api"
	"exchequer/dsl"
	"exchequer/vm"
)

// version is a version that is kept. Of what it tells, Until alone is written again.
type version struct {
	Version
	once    sync.Once   // guards program
	program *vm.Program // made when it is first asked for
}

// compile is a source's program; or its first fault's line or item, and error.
func compile(source string) (*vm.Program, int, api.Errno) {
	t, line, e := dsl.Parse(source)
	if e != api.OK {
		return nil, line, e
	}
	return vm.Compile(t)
}

// history is a set's versions, by rising Number, which are by rising From, too.
type history []*version

// last is the last version, or nil.
func (h history) last() *version {
	if len(h) == 0 {
		return nil
	}
	return h[len(h)-1]
}

// holds: is it the version of its set at an instant?
func (v Version) holds(at int) bool { return v.From <= at && (at < v.Until || v.Until == 0) }

// copied is the same in new memory.
func copied(v Version) Version {
	v.Set, v.Source = strings.Clone(v.Set), strings.Clone(v.Source)
	return v
}
