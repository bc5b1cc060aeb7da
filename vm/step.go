package vm

import (
	"exchequer/api"
	"exchequer/dsl"
)

// The kinds of instructions that stand beside those of expressions, which have their Ops.
const (
	behindIf   = -1 // goes on to the next rule, if this one's If isn't true
	behindThen = -2 // gives the output its value and goes on to the next output, if there is a value
)

// instruction is a step of a program.
type instruction struct {
	do func(m *machine)
}

// seed is what an instruction is made from.
type seed struct {
	op   int
	n    int    // a number, or what a truth is
	s    string // a text, or a name
	skip int    // how many instructions behind it its jump leads over
}

// maker is how instructions of one kind are made.
type maker struct {
	made func(s seed) func(m *machine)
}

// makers are those of all kinds. Where a name's value stands, they ask place.
func makers(place func(name string) int) map[int]maker {
	constant := maker{pushes}
	return map[int]maker{
		behindIf:   {tests},
		behindThen: {func(s seed) func(m *machine) { return gives(place(s.s), s.skip) }},
		dsl.ENum:   constant,
		dsl.EText:  constant,
		dsl.EBool:  constant,
		dsl.EName:  {func(s seed) func(m *machine) { return looks(place(s.s), func(v value) value { return v }) }},
		dsl.EKnown: {func(s seed) func(m *machine) { return looks(place(s.s), func(v value) value { return truth(v.is) }) }},
		dsl.EOr:    decides(truth(true)),
		dsl.EAnd:   decides(truth(false)),
		dsl.ENot:   turns(func(n int) int { return 1 - n }),
		dsl.EEq:    joins(func(a, b value) value { return truth(a == b) }),
		dsl.ENe:    joins(func(a, b value) value { return truth(a != b) }),
		dsl.ELt:    compares(func(a, b int) bool { return a < b }),
		dsl.ELe:    compares(func(a, b int) bool { return a <= b }),
		dsl.EGt:    compares(func(a, b int) bool { return a > b }),
		dsl.EGe:    compares(func(a, b int) bool { return a >= b }),
		dsl.EAdd:   reckons(func(a, b int) int { return a + b }),
		dsl.ESub:   reckons(func(a, b int) int { return a - b }),
		dsl.EMul:   reckons(product),
		dsl.EDiv:   reckons(func(a, b int) int { return a / divisor(b) }),
		dsl.EMod:   reckons(func(a, b int) int { return a % divisor(b) }),
		dsl.ENeg:   turns(func(n int) int { return -n }),
	}
}

// tests jumps, if what was asked isn't true.
func tests(s seed) func(m *machine) {
	return func(m *machine) {
		if m.pop() != truth(true) {
			m.at += s.skip
		}
	}
}

// gives keeps a value in its place and jumps, if there is one.
func gives(at, skip int) func(m *machine) {
	return func(m *machine) {
		if v := m.pop(); v.is {
			m.values[at] = v
			m.at += skip
		}
	}
}

// pushes is a constant.
func pushes(s seed) func(m *machine) {
	v := value{true, s.n, s.s}
	return func(m *machine) { m.push(v) }
}

// looks is what is told of the value in a place.
func looks(at int, told func(v value) value) func(m *machine) {
	return func(m *machine) { m.push(told(m.values[at])) }
}

// decides leaves the left value and jumps over the right one's instructions, if that is one, or none.
func decides(enough value) maker {
	return maker{func(s seed) func(m *machine) {
		return func(m *machine) {
			v := m.pop()
			if v == enough || !v.is {
				m.push(v)
				m.at += s.skip
			}
		}
	}}
}

// turns makes one number of another, also where it is what a truth is.
func turns(turn func(n int) int) maker {
	return maker{func(seed) func(m *machine) {
		return func(m *machine) {
			v := m.pop()
			if v.is {
				v = number(turn(v.n))
			}
			m.push(v)
		}
	}}
}

// joins makes one value of two.
func joins(join func(a, b value) value) maker {
	return maker{func(seed) func(m *machine) {
		return func(m *machine) {
			b, a := m.pop(), m.pop()
			if !a.is || !b.is {
				m.push(value{})
				return
			}
			m.push(join(a, b))
		}
	}}
}

// compares makes a truth of two ints.
func compares(holds func(a, b int) bool) maker {
	return joins(func(a, b value) value { return truth(holds(a.n, b.n)) })
}

// reckons makes an int of two, within the bounds.
func reckons(reckon func(a, b int) int) maker {
	return joins(func(a, b value) value {
		// Sums and differences of ints within the bounds go beyond Go's int by 1 at most, and what they wrap round to is beyond the bounds, too.
		n := reckon(a.n, b.n)
		if n < -api.MaxUnits || n > api.MaxUnits {
			panic(fault{api.ErrOverflow})
		}
		return number(n)
	})
}

// product is that of two ints within the bounds, if it is within Go's int.
func product(a, b int) int {
	if a != 0 && max(b, -b) > api.MaxUnits/max(a, -a) {
		panic(fault{api.ErrOverflow})
	}
	return a * b
}

// divisor is a number that may be divided by.
func divisor(n int) int {
	if n == 0 {
		panic(fault{api.ErrZero})
	}
	return n
}
