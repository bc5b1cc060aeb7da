package check

import (
	"maps"
	"slices"
	"strings"

	"exchequer/dsl"
)

// Needs are the names that an expression needs, rising.
func Needs(e dsl.Expr) []string {
	n := needer{map[string]struct{}{}, map[*dsl.Expr]struct{}{}}
	n.look(e)
	return slices.Sorted(maps.Keys(n.names))
}

// needer gathers names.
type needer struct {
	names map[string]struct{}
	seen  map[*dsl.Expr]struct{} // those within that are looked at already
}

// look gathers an expression's names. One that stands in many places is looked at once, as in typer.
func (n needer) look(x dsl.Expr) {
	if x.Op == dsl.EName || x.Op == dsl.EKnown {
		n.names[strings.Clone(x.S)] = struct{}{}
	}
	for i := range x.Args {
		arg := &x.Args[i]
		if _, is := n.seen[arg]; !is {
			n.seen[arg] = struct{}{}
			n.look(*arg)
		}
	}
}
