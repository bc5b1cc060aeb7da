package check

import (
	"cmp"
	"slices"
	"strings"

	"exchequer/api"
	"exchequer/dsl"
)

// output is what the place of an output in a plan hangs on.
type output struct {
	name  string
	rules []int    // the numbers of its rules, by falling Rank
	needs []string // the names that these need
}

// planned is the plan of a theory each of whose items may stand where it does; or ErrCycle.
func planned(t dsl.Theory) (Plan, api.Errno) {
	var plan Plan
	left := outputs(t)
	isLeft := func(name string) bool {
		return slices.ContainsFunc(left, func(o output) bool { return o.name == name })
	}
	for len(left) > 0 {
		at := slices.IndexFunc(left, func(o output) bool { return !slices.ContainsFunc(o.needs, isLeft) })
		if at < 0 {
			return Plan{}, api.ErrCycle
		}
		plan.Order = append(plan.Order, left[at].name)
		plan.Rules = append(plan.Rules, left[at].rules)
		left = slices.Delete(left, at, at+1)
	}
	return plan, api.OK
}

// outputs are the outputs of a theory, by rising names.
func outputs(t dsl.Theory) []output {
	var l []output
	for _, d := range t.Decls {
		if d.Output {
			rules := rulesOf(t.Rules, d.Name)
			l = append(l, output{strings.Clone(d.Name), rules, needsOf(t.Rules, rules)})
		}
	}
	slices.SortFunc(l, func(a, b output) int { return cmp.Compare(a.name, b.name) })
	return l
}

// rulesOf are the numbers of the rules for an output, by falling Rank.
func rulesOf(rules []dsl.Rule, name string) []int {
	var l []int
	for i, r := range rules {
		if r.Target == name {
			l = append(l, i)
		}
	}
	slices.SortFunc(l, func(a, b int) int { return cmp.Compare(rules[b].Rank, rules[a].Rank) })
	return l
}

// needsOf are the names that the rules of such numbers need.
func needsOf(rules []dsl.Rule, numbers []int) []string {
	var l []string
	for _, i := range numbers {
		l = slices.Concat(l, Needs(rules[i].If), Needs(rules[i].Then))
	}
	return l
}
