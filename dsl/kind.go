package dsl

// How strongly expressions bind, from least.
const (
	bindsOr = 1 + iota
	bindsAnd
	bindsNot
	bindsCompare
	bindsSum
	bindsTerm
	bindsFactor
)

// kind is what expressions of one Op have in common.
type kind struct {
	mark  string // an operator, as it stands in a text
	args  int    // how many Args
	binds int
}

// kinds are those that there are, by their Ops.
var kinds = [...]kind{
	ENum:   {"", 0, bindsFactor},
	EText:  {"", 0, bindsFactor},
	EBool:  {"", 0, bindsFactor},
	EName:  {"", 0, bindsFactor},
	EKnown: {"", 0, bindsFactor},
	EOr:    {"or", 2, bindsOr},
	EAnd:   {"and", 2, bindsAnd},
	ENot:   {"not", 1, bindsNot},
	EEq:    {"=", 2, bindsCompare},
	ENe:    {"!=", 2, bindsCompare},
	ELt:    {"<", 2, bindsCompare},
	ELe:    {"<=", 2, bindsCompare},
	EGt:    {">", 2, bindsCompare},
	EGe:    {">=", 2, bindsCompare},
	EAdd:   {"+", 2, bindsSum},
	ESub:   {"-", 2, bindsSum},
	EMul:   {"*", 2, bindsTerm},
	EDiv:   {"/", 2, bindsTerm},
	EMod:   {"%", 2, bindsTerm},
	ENeg:   {"-", 1, bindsFactor},
}

// typeWord is a type's word; empty if it is no type.
func typeWord(t int) string {
	switch t {
	case TInt:
		return "int"
	case TBool:
		return "bool"
	case TText:
		return "text"
	}
	return ""
}
