package trim_test

import (
	"fmt"
	"math"
	"math/rand"
	"slices"
	"testing"

	"umlaut/api"
	"umlaut/desc"
	"umlaut/run"
	"umlaut/term"
	"umlaut/trim"
)

// each is guards of one symbol each.
func each(symbols string) [][]api.Span {
	var l [][]api.Span
	for _, x := range symbols {
		l = append(l, []api.Span{{Lo: int(x), Hi: int(x)}})
	}
	return l
}

// consts is terms that write a text's symbols.
func consts(symbols string) []api.Term {
	var l []api.Term
	for _, x := range symbols {
		l = append(l, term.Const(x))
	}
	return l
}

// eats is a rule that reads and eats a text, and writes another one.
func eats(from, to int, read, write string) api.Rule {
	return api.Rule{From: from, To: to, Guards: each(read), Eat: len([]rune(read)), Out: consts(write)}
}

// ends is a final that writes a text.
func ends(from int, write string) api.Final {
	return api.Final{From: from, Out: consts(write)}
}

// from is a description from bytes to bytes.
func from(states, start int, rules []api.Rule, finals ...api.Final) api.Desc {
	return api.Desc{In: api.Bytes, Out: api.Bytes, States: states, Start: start, Rules: rules, Finals: finals}
}

// text is a description as a text, of which nil and empty lists are one.
func text(d api.Desc) string { return fmt.Sprint(d) }

// states is the states of which a word of the chapter's holds: more of them are told again and again, till there are none.
func states(d api.Desc, more func(has func(int) bool, q int) bool) []int {
	var l []int
	has := func(q int) bool { return slices.Contains(l, q) }
	for again := true; again; {
		again = false
		for q := range d.States {
			if !has(q) && more(has, q) {
				l, again = append(l, q), true
			}
		}
	}
	slices.Sort(l)
	return l
}

// comes is the states that come, by the chapter's words.
func comes(d api.Desc) []int {
	return states(d, func(has func(int) bool, q int) bool {
		return q == d.Start || slices.ContainsFunc(d.Rules, func(r api.Rule) bool { return r.To == q && has(r.From) })
	})
}

// goesOn is the states that go on, by the chapter's words.
func goesOn(d api.Desc) []int {
	return states(d, func(has func(int) bool, q int) bool {
		return slices.ContainsFunc(d.Finals, func(f api.Final) bool { return f.From == q }) ||
			slices.ContainsFunc(d.Rules, func(r api.Rule) bool { return r.From == q && has(r.To) })
	})
}

// trimmed is what Trim is to answer, by the chapter's words.
func trimmed(d api.Desc) api.Desc {
	on := goesOn(d)
	if !slices.Contains(on, d.Start) {
		return api.Desc{In: d.In, Out: d.Out, States: 1}
	}
	kept := slices.DeleteFunc(comes(d), func(q int) bool { return !slices.Contains(on, q) })
	number := func(q int) int { return slices.Index(kept, q) }
	out := api.Desc{In: d.In, Out: d.Out, States: len(kept), Start: number(d.Start)}
	for _, r := range d.Rules {
		r.From, r.To = number(r.From), number(r.To)
		if r.From >= 0 && r.To >= 0 {
			out.Rules = append(out.Rules, r)
		}
	}
	for _, f := range d.Finals {
		f.From = number(f.From)
		if f.From >= 0 {
			out.Finals = append(out.Finals, f)
		}
	}
	return out
}

// want asks all three calls of a well-formed description.
func want(t *testing.T, d api.Desc, come, on []int, trimmed api.Desc) {
	t.Helper()
	if l, e := trim.Comes(d); !slices.Equal(l, come) || e != api.OK {
		t.Fatalf("Comes(%v): %v, %d, not %v", d, l, e, come)
	}
	if l, e := trim.GoesOn(d); !slices.Equal(l, on) || e != api.OK {
		t.Fatalf("GoesOn(%v): %v, %d, not %v", d, l, e, on)
	}
	if c, e := trim.Trim(d); text(c) != text(trimmed) || e != api.OK {
		t.Fatalf("Trim(%v): %v, %d, not %v", d, c, e, trimmed)
	}
}

// P9.1, P9.2: the chapter's example, and the words one by one.
func TestExamples(t *testing.T) {
	want(t, from(3, 0, []api.Rule{eats(0, 1, "a", ""), eats(0, 2, "b", "")}, ends(1, "")),
		[]int{0, 1, 2}, []int{0, 1}, from(2, 0, []api.Rule{eats(0, 1, "a", "")}, ends(1, "")))
	// States ahead of the start, and between others, go; rules and finals stay in their order, what is twice there twice.
	want(t, from(7, 5, []api.Rule{
		eats(5, 2, "b", "1"), eats(0, 2, "a", "2"), eats(2, 6, "", "3"), eats(2, 3, "a", "4"), eats(6, 5, "ab", "5"),
		eats(5, 2, "a", "6"), eats(4, 0, "a", "7"), eats(5, 2, "b", "1"), eats(2, 2, "c", "8"), eats(3, 3, "a", "9"), eats(1, 6, "a", ""),
	}, ends(6, "x"), ends(0, "y"), ends(2, "z"), ends(6, "w")),
		[]int{2, 3, 5, 6}, []int{0, 1, 2, 4, 5, 6}, from(3, 1, []api.Rule{
			eats(1, 0, "b", "1"), eats(0, 2, "", "3"), eats(2, 1, "ab", "5"), eats(1, 0, "a", "6"), eats(1, 0, "b", "1"), eats(0, 0, "c", "8"),
		}, ends(2, "x"), ends(0, "z"), ends(2, "w")))
	// Nothing leads from the start to a final.
	want(t, from(3, 1, []api.Rule{eats(1, 1, "a", "x"), eats(1, 2, "a", ""), eats(0, 1, "", "")}, ends(0, "")),
		[]int{1, 2}, []int{0}, desc.Empty(api.Bytes, api.Bytes))
	want(t, from(4, 2, []api.Rule{eats(2, 3, "a", "")}), []int{2, 3}, nil, desc.Empty(api.Bytes, api.Bytes))
	// The start alone, where no rule leads from it, or to it.
	want(t, from(3, 2, []api.Rule{eats(0, 1, "a", ""), eats(1, 0, "a", "")}, ends(2, "x"), ends(1, "y")),
		[]int{2}, []int{0, 1, 2}, from(1, 0, nil, ends(0, "x")))
	want(t, from(1, 0, nil), []int{0}, nil, from(1, 0, nil))
	// A rule that leads from what comes and goes on to what doesn't is gone, one from what doesn't come too.
	want(t, from(3, 0, []api.Rule{eats(0, 1, "a", ""), eats(2, 0, "a", "")}, ends(0, ""), ends(2, "")),
		[]int{0, 1}, []int{0, 2}, from(1, 0, nil, ends(0, "")))
}

// P9.1: guards count for nothing, nor does it count what is eaten and whether a final can be taken.
func TestGuards(t *testing.T) {
	ahead := eats(1, 2, "xy", "")
	ahead.Eat = 1
	d := from(4, 0, []api.Rule{eats(0, 1, "ab", "p"), ahead, eats(0, 3, "", "")}, api.Final{From: 2, Guards: each("z"), Out: []api.Term{term.Copy(0, 0)}})
	if ok, e := run.Accepts(d, []rune("abxz")); ok || e != api.OK {
		t.Fatalf("Accepts: %v, %d", ok, e)
	}
	kept := from(3, 0, d.Rules[:2], d.Finals...)
	want(t, d, []int{0, 1, 2, 3}, []int{0, 1, 2}, kept)
}

// P9.2: of all sorts, what stays is as it was, and what is empty has the same sorts.
func TestSorts(t *testing.T) {
	for _, in := range []api.Sort{api.Bytes, api.Scalars} {
		want(t, desc.Same(in), []int{0}, []int{0}, desc.Same(in))
		for _, out := range []api.Sort{api.Bytes, api.Scalars} {
			want(t, desc.Empty(in, out), []int{0}, nil, desc.Empty(in, out))
			d := desc.Empty(in, out)
			d.States, d.Start, d.Rules, d.Finals = 9, 7, []api.Rule{eats(3, 7, "a", "b"), eats(7, 8, "a", "b")}, []api.Final{ends(3, "c")}
			want(t, d, []int{7, 8}, []int{3}, desc.Empty(in, out))
			d.Finals = append(d.Finals, ends(8, "d"))
			kept := desc.Empty(in, out)
			kept.States, kept.Rules, kept.Finals = 2, []api.Rule{eats(0, 1, "a", "b")}, []api.Final{ends(1, "d")}
			want(t, d, []int{7, 8}, []int{3, 7, 8}, kept)
		}
	}
}

// P9.1: what isn't well formed.
func TestInvalid(t *testing.T) {
	broken, cyclic := desc.Same(api.Bytes), from(3, 0, []api.Rule{eats(1, 2, "", ""), eats(2, 1, "", "")}, ends(0, ""))
	broken.Rules[0].Eat = 0
	far := from(2, 0, []api.Rule{eats(0, 2, "a", "")}, ends(0, ""))
	below := from(2, 0, []api.Rule{eats(-1, 1, "a", "")}, ends(0, ""))
	for what, d := range map[string]api.Desc{
		"zero": {}, "broken": broken, "a cycle that doesn't come": cyclic, "a rule beyond": far, "a rule below": below,
		"a final beyond": from(2, 0, nil, ends(2, "")), "a final below": from(2, 0, nil, ends(math.MinInt, "")),
		"start beyond": from(2, 2, nil, ends(0, "")), "many states": from(api.MaxStates+1, 0, nil, ends(0, "")), "most states": from(math.MaxInt, 0, nil, ends(0, "")),
	} {
		if l, e := trim.Comes(d); e != api.ErrInvalid || len(l) > 0 {
			t.Errorf("Comes, %s: %v, %d", what, l, e)
		}
		if l, e := trim.GoesOn(d); e != api.ErrInvalid || len(l) > 0 {
			t.Errorf("GoesOn, %s: %v, %d", what, l, e)
		}
		if c, e := trim.Trim(d); e != api.ErrInvalid || text(c) != text(api.Desc{}) {
			t.Errorf("Trim, %s: %v, %d", what, c, e)
		}
	}
}

// P9.1, P9.2: as many states and rules as may be.
func TestMost(t *testing.T) {
	var rules []api.Rule
	var all []int
	for q := range api.MaxStates {
		all = append(all, q)
		next := (q + 1) % api.MaxStates
		rules = append(rules, eats(q, next, "a", "x"), eats(q, next, "a", "x"), eats(next, q, "b", ""), eats(q, q, "c", ""))
	}
	d := from(api.MaxStates, 77, rules, ends(500, "e"))
	want(t, d, all, all, d)
	d.Finals = nil
	want(t, d, all, nil, desc.Empty(api.Bytes, api.Bytes))
	// One way alone leads through all states, downwards.
	rules = nil
	for q := range api.MaxStates - 1 {
		rules = append(rules, eats(q+1, q, "", ""))
	}
	d = from(api.MaxStates, api.MaxStates-1, rules, slices.Repeat([]api.Final{ends(0, "")}, api.MaxRules)...)
	want(t, d, all, all, d)
	d.Start = 0
	want(t, d, all[:1], all, from(1, 0, nil, d.Finals...))
}

// chance makes descriptions by chance, the same ones each time.
type chance struct{ *rand.Rand }

func (r chance) guards(n int) [][]api.Span {
	var l [][]api.Span
	for range n {
		l = append(l, [][]api.Span{{{Lo: 'a', Hi: 'a'}}, {{Lo: 'b', Hi: 'b'}}, {{Lo: 'a', Hi: 'b'}}}[r.Intn(3)])
	}
	return l
}

func (r chance) terms(n int) []api.Term {
	var l []api.Term
	for range r.Intn(3) {
		if n > 0 && r.Intn(3) == 0 {
			l = append(l, term.Copy(r.Intn(n), r.Intn(2)))
			continue
		}
		l = append(l, term.Const('x'+rune(r.Intn(3))))
	}
	return l
}

// desc is a well-formed description, with few rules for its states.
func (r chance) desc() api.Desc {
	for {
		d := desc.Empty(api.Sort(1+r.Intn(2)), api.Sort(1+r.Intn(2)))
		d.States = 1 + r.Intn(9)
		d.Start = r.Intn(d.States)
		for range r.Intn(3 * d.States) {
			n := max(0, r.Intn(5)-2)
			d.Rules = append(d.Rules, api.Rule{From: r.Intn(d.States), To: r.Intn(d.States), Guards: r.guards(n), Eat: min(n, 1+r.Intn(2)), Out: r.terms(n)})
		}
		for range r.Intn(4) {
			n := max(0, r.Intn(5)-2)
			d.Finals = append(d.Finals, api.Final{From: r.Intn(d.States), Guards: r.guards(n), Out: r.terms(n)})
		}
		if desc.Check(d) == api.OK {
			return d
		}
	}
}

// wantSame asks what two descriptions relate inputs to, and answers to how many of them something.
func wantSame(t *testing.T, r chance, d, c api.Desc) int {
	t.Helper()
	related := 0
	for n := range 5 {
		var x []rune
		for range n {
			x = append(x, 'a'+rune(r.Intn(2)))
		}
		l, e := run.Outputs(d, x, math.MaxInt)
		m, f := run.Outputs(c, x, math.MaxInt)
		if e != api.OK || f != api.OK || fmt.Sprint(l) != fmt.Sprint(m) {
			t.Fatalf("Trim(%v) of %q: %v, not %v", d, string(x), m, l)
		}
		related += min(1, len(l))
	}
	return related
}

// P9.1, P9.2, by the chapter's words, and P9.3: many descriptions.
func TestModel(t *testing.T) {
	r := chance{rand.New(rand.NewSource(9))}
	related, less, empty := 0, 0, 0
	for range 5000 {
		d := r.desc()
		want(t, d, comes(d), goesOn(d), trimmed(d))
		c, _ := trim.Trim(d)
		if desc.Check(c) != api.OK {
			t.Fatalf("Trim(%v): %v isn't well formed", d, c)
		}
		related += wantSame(t, r, d, c)
		if again, e := trim.Trim(c); text(again) != text(c) || e != api.OK {
			t.Fatalf("Trim(%v) once more: %v, %d", d, again, e)
		}
		come, _ := trim.Comes(c)
		on, _ := trim.GoesOn(c)
		if len(on) == 0 {
			empty++
		} else if len(come) != c.States || len(on) != c.States {
			t.Fatalf("Trim(%v): of %v come %v, go on %v", d, c, come, on)
		} else if c.States < d.States {
			less++
		}
	}
	if related < 2000 || less < 1000 || empty < 500 {
		t.Errorf("few inputs are related to something, or few states are gone, or few descriptions empty: %d, %d, %d", related, less, empty)
	}
}

// roomy is a list with room behind it, in which something stands.
func roomy[T any](l []T, behind T) []T {
	return append(slices.Clip(slices.Clone(l)), behind, behind)[:len(l)]
}

// roomyDesc is a description with room behind all of its lists.
func roomyDesc() api.Desc {
	copied := eats(1, 0, "ab", "x")
	copied.Out = append(copied.Out, term.Copy(1, 0))
	d := from(4, 0, []api.Rule{eats(0, 1, "a", "p"), eats(1, 3, "", "q"), copied, eats(2, 1, "", "")},
		api.Final{From: 1, Guards: each("d"), Out: []api.Term{term.Copy(0, 0)}}, ends(0, "z"))
	guards := func(l [][]api.Span) [][]api.Span {
		for i := range l {
			l[i] = roomy(l[i], api.Span{Lo: 66})
		}
		return roomy(l, []api.Span{{Lo: 67}})
	}
	terms := func(l []api.Term) []api.Term {
		for i := range l {
			l[i].Parts = roomy(l[i].Parts, api.Part{At: 66})
		}
		return roomy(l, api.Term{Sum: 66})
	}
	for i, r := range d.Rules {
		d.Rules[i].Guards, d.Rules[i].Out = guards(r.Guards), terms(r.Out)
	}
	for i, f := range d.Finals {
		d.Finals[i].Guards, d.Finals[i].Out = guards(f.Guards), terms(f.Out)
	}
	d.Rules, d.Finals = roomy(d.Rules, api.Rule{From: 66}), roomy(d.Finals, api.Final{From: 66})
	return d
}

// whole is a description as a text, with all that lies in its lists' room.
func whole(d api.Desc) string {
	out := text(d)
	wide := func(g [][]api.Span, l []api.Term) {
		for _, s := range g[:cap(g)] {
			out += fmt.Sprint(s[:cap(s)])
		}
		for _, x := range l[:cap(l)] {
			out += fmt.Sprint(x, x.Parts[:cap(x.Parts)])
		}
	}
	for _, r := range d.Rules[:cap(d.Rules)] {
		out += fmt.Sprint(r)
		wide(r.Guards, r.Out)
	}
	for _, f := range d.Finals[:cap(d.Finals)] {
		out += fmt.Sprint(f)
		wide(f.Guards, f.Out)
	}
	return out
}

// scrawl writes into guards and terms, and what they hold, their lists' room too.
func scrawl(g [][]api.Span, l []api.Term) {
	for _, s := range g {
		for i := range s[:cap(s)] {
			s[:cap(s)][i].Lo = -7
		}
	}
	for _, x := range l {
		for i := range x.Parts[:cap(x.Parts)] {
			x.Parts[:cap(x.Parts)][i].Up = -7
		}
	}
	for i := range g[:cap(g)] {
		g[:cap(g)][i] = nil
	}
	for i := range l[:cap(l)] {
		l[:cap(l)][i] = api.Term{Base: -7}
	}
}

// Rule 4: what is handed in isn't changed, its spare room neither; what is answered is new memory, of which no two lists share any.
func TestMemory(t *testing.T) {
	d := roomyDesc()
	before := whole(d)
	got, e := trim.Trim(d)
	wanted := text(got)
	if e != api.OK || len(got.Rules) != 2 || len(got.Finals) != 2 {
		t.Fatalf("Trim: %v, %d", got, e)
	}
	for i := range got.Rules {
		scrawl(got.Rules[i].Guards, got.Rules[i].Out)
		got.Rules[i] = api.Rule{}
		again, _ := trim.Trim(d)
		if fmt.Sprint(got.Rules[i+1:], got.Finals) != fmt.Sprint(again.Rules[i+1:], again.Finals) {
			t.Errorf("what was answered shares memory within, or with what was handed in: rule %d", i)
		}
	}
	for i := range got.Finals {
		scrawl(got.Finals[i].Guards, got.Finals[i].Out)
		got.Finals[i] = api.Final{}
		again, _ := trim.Trim(d)
		if fmt.Sprint(got.Finals[i+1:]) != fmt.Sprint(again.Finals[i+1:]) {
			t.Errorf("what was answered shares memory within, or with what was handed in: final %d", i)
		}
	}
	for _, call := range []func(api.Desc) ([]int, api.Errno){trim.Comes, trim.GoesOn} {
		l, _ := call(d)
		kept := slices.Clone(l)
		for i := range l[:cap(l)] {
			l[:cap(l)][i] = -7
		}
		if again, _ := call(d); !slices.Equal(again, kept) {
			t.Errorf("once more: %v, not %v", again, kept)
		}
	}
	if whole(d) != before {
		t.Error("what was handed in is changed")
	}
	if again, _ := trim.Trim(d); text(again) != wanted {
		t.Errorf("Trim once more: %v", again)
	}
}
