package check

import (
	"slices"

	"exchequer/api"
	"exchequer/dsl"
)

// finder tells what a name is declared as, if it is.
type finder func(name string) (dsl.Decl, bool)

// declared is the finder of declarations; of several of one name it knows the first.
func declared(decls []dsl.Decl) finder {
	found := map[string]dsl.Decl{}
	for _, d := range slices.Backward(decls) {
		found[d.Name] = d
	}
	return func(name string) (dsl.Decl, bool) {
		d, is := found[name]
		return d, is
	}
}

// Type is an expression's type; or why it has none.
func Type(e dsl.Expr, decls []dsl.Decl) (int, api.Errno) { return typeOf(e, declared(decls)) }

// typeOf is the type of an expression whose names a finder knows.
func typeOf(x dsl.Expr, find finder) (int, api.Errno) {
	if dsl.Depth(x) > api.MaxDepth {
		return 0, api.ErrDeep
	}
	t := typer{kinds(find), map[*dsl.Expr]int{}}
	return t.typed(x)
}

// typeFault is why an expression isn't of a type.
func typeFault(x dsl.Expr, want int, find finder) api.Errno {
	got, e := typeOf(x, find)
	if e == api.OK && got != want {
		return api.ErrType
	}
	return e
}

// typer works out the types of an expression and of all within it.
type typer struct {
	kinds map[int]kind
	found map[*dsl.Expr]int // of those within that are looked at already
}

// typed is an expression's type, its Args' ahead of its own.
func (t typer) typed(x dsl.Expr) (int, api.Errno) {
	args := make([]int, len(x.Args))
	for i := range x.Args {
		var e api.Errno
		if args[i], e = t.once(&x.Args[i]); e != api.OK {
			return 0, e
		}
	}
	if !isOwnFormed(x) {
		return 0, api.ErrForm
	}
	return t.kinds[x.Op].typed(x.S, args)
}

// once is the type of an expression within another. One that stands in many places is looked at once, as there may be more of these places than could ever be gone over.
func (t typer) once(x *dsl.Expr) (int, api.Errno) {
	if got, is := t.found[x]; is {
		return got, api.OK
	}
	got, e := t.typed(*x)
	if e == api.OK {
		t.found[x] = got
	}
	return got, e
}

// isOwnFormed: has it the form that its Op asks, whatever its Args are?
func isOwnFormed(x dsl.Expr) bool {
	// dsl alone says what the form is. Numbers stand for the Args, and three of them for any more, as that is too many for each Op.
	x.Args = slices.Repeat([]dsl.Expr{{Op: dsl.ENum}}, min(len(x.Args), 3))
	_, e := dsl.FormatExpr(x)
	return e == api.OK
}
