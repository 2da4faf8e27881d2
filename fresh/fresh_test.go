package fresh_test

import (
	"fmt"
	"testing"

	"umlaut/api"
	"umlaut/fresh"
)

// guards is two guards, with room behind each of the lists.
func guards() [][]api.Span {
	l := [][]api.Span{{{Lo: 1, Hi: 2}, {Lo: 4, Hi: 5}, {Lo: 66}}, {{Lo: 7, Hi: 7}, {Lo: 66}}, {{Lo: 66}}}
	l[0], l[1] = l[0][:2], l[1][:1]
	return l[:2]
}

// terms is two terms, with room behind each of the lists.
func terms() []api.Term {
	l := []api.Term{{Sum: 1, Parts: []api.Part{{At: 1, Take: 2}, {At: 66}}}, {Sum: 2}, {Sum: 66}}
	l[0].Parts = l[0].Parts[:1]
	return l[:2]
}

// text is lists as a text, with what lies in their room.
func text(g [][]api.Span, l []api.Term) string {
	out := fmt.Sprint(g[:cap(g)], l[:cap(l)])
	for _, s := range g {
		out += fmt.Sprint(s[:cap(s)])
	}
	for _, x := range l {
		out += fmt.Sprint(x.Parts[:cap(x.Parts)])
	}
	return out
}

func TestGuards(t *testing.T) {
	g := guards()
	got := fresh.Guards(g)
	if fmt.Sprint(got) != fmt.Sprint(g) {
		t.Errorf("Guards: %v", got)
	}
	for i := range got {
		_ = append(got[i], api.Span{Lo: -7})
		got[i][0].Lo = -7
	}
	if _ = append(got, nil); text(g, nil) != text(guards(), nil) {
		t.Errorf("Guards shares memory: %v", g)
	}
	if l := fresh.Guards(nil); len(l) != 0 {
		t.Errorf("Guards of none: %v", l)
	}
}

func TestTerms(t *testing.T) {
	a, b := terms(), terms()
	got := fresh.Terms(a, nil, b)
	if want := "[{0 0 0 0 1 [{1 0 2 0}]} {0 0 0 0 2 []} {0 0 0 0 1 [{1 0 2 0}]} {0 0 0 0 2 []}]"; fmt.Sprint(got) != want {
		t.Errorf("Terms: %v", got)
	}
	for i := range got {
		_ = append(got[i].Parts, api.Part{At: -7})
		for j := range got[i].Parts {
			got[i].Parts[j].At = -7
		}
		got[i].Sum = -7
	}
	if _ = append(got, api.Term{Sum: -7}); text(nil, a) != text(nil, terms()) || text(nil, b) != text(nil, terms()) {
		t.Errorf("Terms shares memory: %v, %v", a, b)
	}
	if one := fresh.Terms(a); fmt.Sprint(one) != fmt.Sprint(a) || &one[0] == &a[0] {
		t.Errorf("Terms of one list: %v", one)
	}
	if l := fresh.Terms(nil, nil); len(l) != 0 {
		t.Errorf("Terms of none: %v", l)
	}
}
