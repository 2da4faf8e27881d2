package fresh_test

import (
	"fmt"
	"slices"
	"testing"

	"umlaut/api"
	"umlaut/fresh"
)

// guards is two guards, with room behind each of the lists.
func guards() [][]api.Span {
	l := [][]api.Span{{{Lo: 1, Hi: 2}, {Lo: 4, Hi: 5}, {Lo: 66}}, {{Lo: 7, Hi: 7}, {Lo: 66}}, {{Lo: 66}}}
	l[0], l[1] = l[0][:2], l[1][:1]
	return l[:2]
}

// terms is two terms, with room behind each of the lists.
func terms() []api.Term {
	l := []api.Term{{Sum: 1, Parts: []api.Part{{At: 1, Take: 2}, {At: 66}}}, {Sum: 2}, {Sum: 66}}
	l[0].Parts = l[0].Parts[:1]
	return l[:2]
}

// text is lists as a text, with what lies in their room.
func text(g [][]api.Span, l []api.Term) string {
	out := fmt.Sprint(g[:cap(g)], l[:cap(l)])
	for _, s := range g {
		out += fmt.Sprint(s[:cap(s)])
	}
	for _, x := range l {
		out += fmt.Sprint(x.Parts[:cap(x.Parts)])
	}
	return out
}

func TestGuards(t *testing.T) {
	g := guards()
	got := fresh.Guards(g)
	if fmt.Sprint(got) != fmt.Sprint(g) {
		t.Errorf("Guards: %v", got)
	}
	for i := range got {
		_ = append(got[i], api.Span{Lo: -7})
		got[i][0].Lo = -7
	}
	if _ = append(got, nil); text(g, nil) != text(guards(), nil) {
		t.Errorf("Guards shares memory: %v", g)
	}
	if l := fresh.Guards(nil); len(l) != 0 {
		t.Errorf("Guards of none: %v", l)
	}
}

func TestTerms(t *testing.T) {
	a, b := terms(), terms()
	got := fresh.Terms(a, nil, b)
	if want := "[{0 0 0 0 1 [{1 0 2 0}]} {0 0 0 0 2 []} {0 0 0 0 1 [{1 0 2 0}]} {0 0 0 0 2 []}]"; fmt.Sprint(got) != want {
		t.Errorf("Terms: %v", got)
	}
	for i := range got {
		_ = append(got[i].Parts, api.Part{At: -7})
		for j := range got[i].Parts {
			got[i].Parts[j].At = -7
		}
		got[i].Sum = -7
	}
	if _ = append(got, api.Term{Sum: -7}); text(nil, a) != text(nil, terms()) || text(nil, b) != text(nil, terms()) {
		t.Errorf("Terms shares memory: %v, %v", a, b)
	}
	if one := fresh.Terms(a); fmt.Sprint(one) != fmt.Sprint(a) || &one[0] == &a[0] {
		t.Errorf("Terms of one list: %v", one)
	}
	if l := fresh.Terms(nil, nil); len(l) != 0 {
		t.Errorf("Terms of none: %v", l)
	}
}

// table is a table, with room behind each of the lists.
func table() api.Table {
	x := api.Table{
		Nodes: []api.Node{{Next: []int{-1, -2, 66}, End: 1}, {Held: 2, Next: []int{5, 66}}, {Held: 66}},
		Acts:  []api.Act{{Eat: 1, To: 1, Out: terms()}, {Eat: 2}, {Eat: 66}},
		Ends:  [][]api.Term{terms(), nil, terms(), {{Sum: 66}}},
	}
	x.Class['a'] = 1
	x.Nodes[0].Next, x.Nodes[1].Next = x.Nodes[0].Next[:2], x.Nodes[1].Next[:1]
	x.Nodes, x.Acts, x.Ends = x.Nodes[:2], x.Acts[:2], x.Ends[:3]
	return x
}

// tableText is a table as a text, with what lies in its lists' room.
func tableText(x api.Table) string {
	out := fmt.Sprint(x.Nodes[:cap(x.Nodes)], x.Acts[:cap(x.Acts)], x.Ends[:cap(x.Ends)], x.Class)
	for _, n := range x.Nodes {
		out += fmt.Sprint(n.Next[:cap(n.Next)])
	}
	for _, a := range x.Acts {
		out += text(nil, a.Out)
	}
	for _, l := range x.Ends {
		out += text(nil, l)
	}
	return out
}

func TestTable(t *testing.T) {
	x := table()
	got := fresh.Table(x)
	if fmt.Sprint(got) != fmt.Sprint(x) {
		t.Errorf("Table: %v", got)
	}
	lists := slices.Clone(got.Ends)
	for i := range got.Acts {
		lists = append(lists, got.Acts[i].Out)
		got.Acts[i] = api.Act{Eat: -7}
	}
	for _, l := range lists {
		_ = append(l, api.Term{Sum: -7})
		for j := range l {
			_ = append(l[j].Parts, api.Part{At: -7})
			clear(l[j].Parts)
		}
		clear(l)
	}
	for i := range got.Nodes {
		_ = append(got.Nodes[i].Next, -7)
		clear(got.Nodes[i].Next)
		got.Nodes[i] = api.Node{Held: -7}
	}
	clear(got.Ends)
	_, _, _ = append(got.Nodes, api.Node{Held: -7}), append(got.Acts, api.Act{Eat: -7}), append(got.Ends, terms())
	if tableText(x) != tableText(table()) {
		t.Errorf("Table shares memory: %v", x)
	}
	if none := fresh.Table(api.Table{}); len(none.Nodes)+len(none.Acts)+len(none.Ends) != 0 {
		t.Errorf("Table of the zero table: %v", none)
	}
}
