package states_test

import (
	"fmt"
	"slices"
	"testing"

	"umlaut/api"
	"umlaut/states"
)

func TestBy(t *testing.T) {
	l := []api.Rule{{From: 2, To: 7}, {From: 0}, {From: 2, To: 8}, {From: 2, To: 7, Eat: 1}}
	got := states.By(l, 4, states.OfRule)
	if want := [][]api.Rule{{l[1]}, nil, {l[0], l[2], l[3]}, nil}; fmt.Sprint(got) != fmt.Sprint(want) {
		t.Errorf("By: %v", got)
	}
	finals := []api.Final{{From: 1}, {From: 0, Out: []api.Term{{Sum: 5}}}, {From: 1, Out: []api.Term{{Sum: 6}}}}
	if got := states.By(finals, 2, states.OfFinal); fmt.Sprint(got) != fmt.Sprint([][]api.Final{{finals[1]}, {finals[0], finals[2]}}) {
		t.Errorf("By: %v", got)
	}
	if got := states.By[api.Rule](nil, 3, states.OfRule); len(got) != 3 || len(got[0])+len(got[1])+len(got[2]) != 0 {
		t.Errorf("By: %v", got)
	}
}

// eats is a rule that reads something.
func eats(from, to int) api.Rule {
	return api.Rule{From: from, To: to, Guards: [][]api.Span{{{Lo: 'a', Hi: 'a'}}}, Eat: 1}
}

func TestLate(t *testing.T) {
	for i, rules := range [][]api.Rule{
		nil,
		{{From: 0, To: 1}, {From: 1, To: 2}, {From: 2, To: 3}},
		{{From: 3, To: 2}, {From: 2, To: 1}, {From: 1, To: 0}},
		{{From: 1, To: 3}, {From: 1, To: 2}, {From: 2, To: 0}, {From: 3, To: 0}, {From: 3, To: 2}, eats(0, 1), eats(0, 3)},
		{{From: 2, To: 0}, {From: 2, To: 0}, {From: 0, To: 3}, eats(1, 1), eats(3, 2)},
	} {
		l := states.Late(states.By(rules, 4, states.OfRule))
		if sorted := slices.Sorted(slices.Values(l)); !slices.Equal(sorted, []int{0, 1, 2, 3}) {
			t.Errorf("Late, %d: %v", i, l)
		}
		for _, r := range rules {
			if states.Epsilon(r) && slices.Index(l, r.From) < slices.Index(l, r.To) {
				t.Errorf("Late, %d: %v, with %v", i, l, r)
			}
		}
	}
}
