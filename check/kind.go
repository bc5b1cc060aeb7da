package check

import (
	"exchequer/api"
	"exchequer/dsl"
)

// kind is what expressions of one Op have in common.
type kind struct {
	typed func(s string, args []int) (int, api.Errno) // its type, by its S and its Args' types
}

// kinds are those that there are, by their Ops. What a name is, they ask a finder.
func kinds(find finder) map[int]kind {
	// A constant is one of these, too: it has no Args that could be of another type.
	number, text, truth := operator(dsl.TInt, dsl.TInt), operator(dsl.TText, dsl.TText), operator(dsl.TBool, dsl.TBool)
	order, sameness := operator(dsl.TInt, dsl.TBool), kind{alike}
	return map[int]kind{
		dsl.ENum:   number,
		dsl.EText:  text,
		dsl.EBool:  truth,
		dsl.EName:  {func(s string, _ []int) (int, api.Errno) { return named(s, find) }},
		dsl.EKnown: {func(s string, _ []int) (int, api.Errno) { return asked(s, find) }},
		dsl.EOr:    truth,
		dsl.EAnd:   truth,
		dsl.ENot:   truth,
		dsl.EEq:    sameness,
		dsl.ENe:    sameness,
		dsl.ELt:    order,
		dsl.ELe:    order,
		dsl.EGt:    order,
		dsl.EGe:    order,
		dsl.EAdd:   number,
		dsl.ESub:   number,
		dsl.EMul:   number,
		dsl.EDiv:   number,
		dsl.EMod:   number,
		dsl.ENeg:   number,
	}
}

// operator is the kind of those that are of one type, if all their Args are of another.
func operator(each, whole int) kind {
	return kind{func(_ string, args []int) (int, api.Errno) {
		for _, arg := range args {
			if arg != each {
				return 0, api.ErrType
			}
		}
		return whole, api.OK
	}}
}

// alike is the type of what asks whether two of one type are the same.
func alike(_ string, args []int) (int, api.Errno) {
	if args[0] != args[1] {
		return 0, api.ErrType
	}
	return dsl.TBool, api.OK
}

// named is the type that a name is declared of.
func named(name string, find finder) (int, api.Errno) {
	d, is := find(name)
	if !is {
		return 0, api.ErrUnknown
	}
	return d.Type, api.OK
}

// asked is the type of what asks for a name.
func asked(name string, find finder) (int, api.Errno) {
	if _, is := find(name); !is {
		return 0, api.ErrUnknown
	}
	return dsl.TBool, api.OK
}
