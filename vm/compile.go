package vm

import (
	"slices"
	"strings"

	"exchequer/api"
	"exchequer/check"
	"exchequer/dsl"
)

// fits: do rules have no more expressions than a program may be made of?
func fits(rules []dsl.Rule) bool {
	left := api.MaxCode
	for _, r := range rules {
		if r.If.Op != 0 {
			left = without(left, r.If)
		}
		left = without(left, r.Then)
	}
	return left >= 0
}

// without is what is left of so many expressions without one and all within it. Below 0 it goes no further, as there may be more than could ever be gone over.
func without(left int, x dsl.Expr) int {
	left--
	for _, arg := range x.Args {
		if left < 0 {
			break
		}
		left = without(left, arg)
	}
	return left
}

// compiler makes instructions.
type compiler struct {
	makers map[int]maker
}

// compiled are the instructions of rules that have a plan, over declarations by rising names.
func compiled(rules []dsl.Rule, plan check.Plan, decls []dsl.Decl) []instruction {
	c := compiler{makers(func(name string) int {
		at, _ := place(decls, name)
		return at
	})}
	var code []instruction
	for _, numbers := range plan.Rules {
		code = append(code, c.output(rules, numbers)...)
	}
	return code
}

// output has the instructions of an output's rules, whose numbers come by falling Rank.
func (c compiler) output(rules []dsl.Rule, numbers []int) []instruction {
	// A rule that applies jumps over those behind it, so these are made ahead of it.
	var code []instruction
	for _, i := range slices.Backward(numbers) {
		code = slices.Concat(c.rule(rules[i], len(code)), code)
	}
	return code
}

// rule has a rule's instructions, behind which stand so many of the other rules for its output.
func (c compiler) rule(r dsl.Rule, behind int) []instruction {
	// A rule that never holds changes nothing, the number of instructions that are done included.
	if r.If.Op == dsl.EBool && r.If.N == 0 {
		return nil
	}
	then := append(c.expression(r.Then), c.step(seed{op: behindThen, s: r.Target, skip: behind}))
	if r.If.Op == 0 {
		return then
	}
	return slices.Concat(c.expression(r.If), []instruction{c.step(seed{op: behindIf, skip: len(then)})}, then)
}

// expression has an expression's instructions, which leave its value behind.
func (c compiler) expression(x dsl.Expr) []instruction {
	if x.Op == dsl.EAnd || x.Op == dsl.EOr {
		right := c.expression(x.Args[1])
		return slices.Concat(c.expression(x.Args[0]), []instruction{c.step(seed{op: x.Op, skip: len(right)})}, right)
	}
	var code []instruction
	for _, arg := range x.Args {
		code = append(code, c.expression(arg)...)
	}
	return append(code, c.step(seed{op: x.Op, n: x.N, s: strings.Clone(x.S)}))
}

// step is an instruction.
func (c compiler) step(s seed) instruction { return instruction{c.makers[s.op].made(s)} }
