package vm

import "exchequer/api"

// fault is what ends a run, thrown from where it is found.
type fault struct {
	e api.Errno
}

// machine is what a run goes on with.
type machine struct {
	at     int     // the instruction to be done next
	done   int     // how many were done
	stack  []value // of expressions whose operator is to come
	values []value // of inputs and outputs, in their places
}

// run does instructions up to the end, or to the first fault.
func (m *machine) run(code []instruction) (e api.Errno) {
	defer func() {
		if f, is := recover().(fault); is {
			e = f.e
		}
	}()
	for m.at < len(code) {
		do := code[m.at].do
		m.at++
		m.done++
		do(m)
	}
	return api.OK
}

// push puts a value on the stack.
func (m *machine) push(v value) { m.stack = append(m.stack, v) }

// pop takes the last value off the stack.
func (m *machine) pop() value {
	last := len(m.stack) - 1
	v := m.stack[last]
	m.stack = m.stack[:last]
	return v
}
