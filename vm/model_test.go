package vm_test

import (
	"maps"
	"math/big"
	"slices"

	"exchequer/api"
	"exchequer/check"
	"exchequer/dsl"
	"exchequer/vm"
)

// world has the values of inputs and outputs: an int, a bool or a string of each that has one.
type world map[string]any

// of is an expression's value by the chapter's words, or nil for none. An error is thrown.
func (w world) of(x dsl.Expr) any {
	switch x.Op {
	case dsl.ENum:
		return x.N
	case dsl.EText:
		return x.S
	case dsl.EBool:
		return x.N == 1
	case dsl.EName:
		return w[x.S]
	case dsl.EKnown:
		return w[x.S] != nil
	case dsl.EAnd, dsl.EOr:
		left := w.of(x.Args[0])
		if left == nil || left == (x.Op == dsl.EOr) {
			return left
		}
		return w.of(x.Args[1])
	}
	args, whole := []any{}, true
	for _, arg := range x.Args {
		v := w.of(arg)
		args, whole = append(args, v), whole && v != nil
	}
	switch {
	case !whole:
		return nil
	case x.Op == dsl.ENot:
		return args[0] == false
	case x.Op == dsl.EEq:
		return args[0] == args[1]
	case x.Op == dsl.ENe:
		return args[0] != args[1]
	case x.Op == dsl.ENeg:
		return ofInts(dsl.ESub, 0, args[0].(int))
	}
	return ofInts(x.Op, args[0].(int), args[1].(int))
}

// ofInts is the value of an operator between two ints, worked out without bounds.
func ofInts(op, left, right int) any {
	a, b, c := big.NewInt(int64(left)), big.NewInt(int64(right)), new(big.Int)
	order := a.Cmp(b)
	switch op {
	case dsl.ELt:
		return order < 0
	case dsl.ELe:
		return order <= 0
	case dsl.EGt:
		return order > 0
	case dsl.EGe:
		return order >= 0
	case dsl.EAdd:
		c.Add(a, b)
	case dsl.ESub:
		c.Sub(a, b)
	case dsl.EMul:
		c.Mul(a, b)
	case dsl.EDiv, dsl.EMod:
		if right == 0 {
			panic(api.ErrZero)
		}
		rest := new(big.Int)
		c.QuoRem(a, b, rest)
		if op == dsl.EMod {
			c = rest
		}
	}
	if c.CmpAbs(big.NewInt(api.MaxUnits)) > 0 {
		panic(api.ErrOverflow)
	}
	return int(c.Int64())
}

// takes are the values of facts by the chapter's words, or the first fault.
func takes(x dsl.Theory, facts []vm.Fact) (world, api.Errno) {
	w := world{}
	if len(facts) > api.MaxFacts {
		return nil, api.ErrMany
	}
	for _, f := range facts {
		at := slices.IndexFunc(x.Decls, func(d dsl.Decl) bool { return d.Name == f.Name && !d.Output })
		switch {
		case at < 0:
			return nil, api.ErrUnknown
		case w[f.Name] != nil:
			return nil, api.ErrTwice
		case x.Decls[at].Type != f.Type:
			return nil, api.ErrType
		case f.Type == dsl.TInt && new(big.Int).Abs(big.NewInt(int64(f.N))).Cmp(big.NewInt(api.MaxUnits)) > 0, f.Type == dsl.TBool && f.N != 0 && f.N != 1:
			return nil, api.ErrRange
		case f.Type == dsl.TText && len(f.S) > 200:
			return nil, api.ErrLong
		}
		w[f.Name] = map[int]any{dsl.TInt: f.N, dsl.TBool: f.N == 1, dsl.TText: f.S}[f.Type]
	}
	return w, api.OK
}

// concludes is an output's value: the Then of the first of its rules, by falling Rank, that applies.
func (w world) concludes(rules []dsl.Rule, output string) any {
	rules = slices.DeleteFunc(slices.Clone(rules), func(r dsl.Rule) bool { return r.Target != output })
	slices.SortFunc(rules, func(a, b dsl.Rule) int { return b.Rank - a.Rank })
	for _, r := range rules {
		if r.If.Op == 0 || w.of(r.If) == true {
			if v := w.of(r.Then); v != nil {
				return v
			}
		}
	}
	return nil
}

// modelled is what the chapter says that a theory concludes of facts, as a text.
func modelled(x dsl.Theory, facts []vm.Fact) (s string) {
	defer func() {
		if e, is := recover().(api.Errno); is {
			s = failed(e)
		}
	}()
	w, e := takes(x, facts)
	if e != api.OK {
		return failed(e)
	}
	plan, _, _ := check.Check(x)
	for _, name := range plan.Order {
		if v := w.concludes(x.Rules, name); v != nil {
			w[name] = v
		}
	}
	return told(w.outputs(x))
}

// outputs are the values of a theory's outputs as facts, by rising names.
func (w world) outputs(x dsl.Theory) []vm.Fact {
	var l []vm.Fact
	for _, name := range slices.Sorted(maps.Keys(w)) {
		if !slices.ContainsFunc(x.Decls, func(d dsl.Decl) bool { return d.Name == name && d.Output }) {
			continue
		}
		switch v := w[name].(type) {
		case int:
			l = append(l, vm.Int(name, v))
		case bool:
			l = append(l, vm.Bool(name, v))
		case string:
			l = append(l, vm.Text(name, v))
		}
	}
	return l
}
