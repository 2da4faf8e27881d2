// Package states puts what a description holds to its states, and these in an order.
package states

import "umlaut/api"

// By is what each of n states has of a list, in the list's order; each item is of one of them.
func By[T any](l []T, n int, state func(T) int) [][]T {
	out := make([][]T, n)
	for _, x := range l {
		q := state(x)
		out[q] = append(out[q], x)
	}
	return out
}

// OfRule is the state that has a rule.
func OfRule(r api.Rule) int { return r.From }

// OfFinal is the state that has a final.
func OfFinal(f api.Final) int { return f.From }

// Epsilon tells whether a rule reads nothing.
func Epsilon(r api.Rule) bool { return len(r.Guards) == 0 }

// Late is the states, each behind those to which its epsilon rules lead; the rules are put to their states, and no epsilon rules lead back to where they come from.
func Late(rules [][]api.Rule) []int {
	var out []int
	come := make([]bool, len(rules))
	var visit func(q int)
	visit = func(q int) {
		if come[q] {
			return
		}
		come[q] = true
		for _, r := range rules[q] {
			if Epsilon(r) {
				visit(r.To)
			}
		}
		out = append(out, q)
	}
	for q := range len(rules) {
		visit(q)
	}
	return out
}
