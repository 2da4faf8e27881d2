package epsilon_test

import (
	"fmt"
	"math"
	"math/rand"
	"slices"
	"strings"
	"testing"

	"umlaut/api"
	"umlaut/desc"
	"umlaut/epsilon"
	"umlaut/run"
	"umlaut/term"
)

// each is guards of one symbol each.
func each(symbols string) [][]api.Span {
	var l [][]api.Span
	for _, x := range symbols {
		l = append(l, []api.Span{{Lo: int(x), Hi: int(x)}})
	}
	return l
}

// consts is terms that write a text's symbols.
func consts(symbols string) []api.Term {
	var l []api.Term
	for _, x := range symbols {
		l = append(l, term.Const(x))
	}
	return l
}

// eats is a rule that reads and eats a text, and writes another one.
func eats(from, to int, read, write string) api.Rule {
	return api.Rule{From: from, To: to, Guards: each(read), Eat: len([]rune(read)), Out: consts(write)}
}

// ends is a final that writes a text.
func ends(from int, write string) api.Final {
	return api.Final{From: from, Out: consts(write)}
}

// from is a description from bytes to bytes.
func from(states int, rules []api.Rule, finals ...api.Final) api.Desc {
	return api.Desc{In: api.Bytes, Out: api.Bytes, States: states, Rules: rules, Finals: finals}
}

// text is a description as a text, of which nil and empty lists are one.
func text(d api.Desc) string { return fmt.Sprint(d) }

// way is the chapter's word: where it ends, and what it writes.
type way struct {
	end     int
	written []api.Term
}

// ways is all ways from a state, in their order, by the chapter's words.
func ways(d api.Desc, q int) []way {
	l := []way{{end: q}}
	for _, r := range d.Rules {
		if r.From != q || len(r.Guards) > 0 {
			continue
		}
		for _, w := range ways(d, r.To) {
			l = append(l, way{w.end, slices.Concat(r.Out, w.written)})
		}
	}
	return l
}

// free is what Free is to answer, and how many ways there are; not beyond the limits.
func free(d api.Desc) (api.Desc, int) {
	out, n := api.Desc{In: d.In, Out: d.Out, States: d.States, Start: d.Start}, 0
	for q := range d.States {
		for _, w := range ways(d, q) {
			n++
			for _, r := range d.Rules {
				if r.From == w.end && len(r.Guards) > 0 {
					out.Rules = append(out.Rules, api.Rule{From: q, To: r.To, Guards: r.Guards, Eat: r.Eat, Out: slices.Concat(w.written, r.Out)})
				}
			}
			for _, f := range d.Finals {
				if f.From == w.end {
					out.Finals = append(out.Finals, api.Final{From: q, Guards: f.Guards, Out: slices.Concat(w.written, f.Out)})
				}
			}
		}
	}
	return out, n
}

// wantFree asks both calls of a description within the limits.
func wantFree(t *testing.T, d api.Desc) api.Desc {
	t.Helper()
	want, n := free(d)
	if got, e := epsilon.Ways(d); got != n || e != api.OK {
		t.Fatalf("Ways(%v): %d, %d, not %d", d, got, e, n)
	}
	got, e := epsilon.Free(d)
	if text(got) != text(want) || e != api.OK {
		t.Fatalf("Free(%v): %v, %d, not %v", d, got, e, want)
	}
	return got
}

// wantErrors asks both calls.
func wantErrors(t *testing.T, what string, d api.Desc, waysWant, freeWant api.Errno) {
	t.Helper()
	if n, e := epsilon.Ways(d); e != waysWant || (e != api.OK) != (n == 0) {
		t.Errorf("Ways, %s: %d, %d, not %d", what, n, e, waysWant)
	}
	got, e := epsilon.Free(d)
	if e != freeWant || e != api.OK && text(got) != text(api.Desc{}) {
		t.Errorf("Free, %s: %d, not %d; %d rules", what, e, freeWant, len(got.Rules))
	}
	if e == api.OK && (desc.Check(got) != api.OK || !desc.Free(got)) {
		t.Errorf("Free, %s: not well formed, or not free", what)
	}
}

// P8.2: the chapter's example, and the order of ways, rules and finals.
func TestExamples(t *testing.T) {
	d := from(2, []api.Rule{eats(0, 1, "", "x"), eats(1, 1, "a", "y")}, ends(1, ""))
	got := wantFree(t, d)
	if want := from(2, []api.Rule{eats(0, 1, "a", "xy"), eats(1, 1, "a", "y")}, ends(0, "x"), ends(1, "")); text(got) != text(want) {
		t.Errorf("Free: %v", got)
	}
	if n, e := epsilon.Ways(d); n != 3 || e != api.OK {
		t.Errorf("Ways: %d, %d", n, e)
	}
	d = from(4, []api.Rule{
		eats(0, 3, "", "1"), eats(0, 0, "a", "p"), eats(0, 1, "", "2"), eats(2, 2, "c", "r"), eats(1, 2, "", "3"), eats(1, 0, "b", "q"),
		eats(0, 2, "", "4"), eats(0, 1, "d", "s"), eats(3, 2, "", ""), eats(1, 2, "", "5"),
	}, ends(2, "U"), ends(0, "V"), ends(2, "W"))
	d.Start = 3
	got = wantFree(t, d)
	want := from(4, []api.Rule{
		eats(0, 0, "a", "p"), eats(0, 1, "d", "s"), eats(0, 2, "c", "1r"), eats(0, 0, "b", "2q"), eats(0, 2, "c", "23r"), eats(0, 2, "c", "25r"), eats(0, 2, "c", "4r"),
		eats(1, 0, "b", "q"), eats(1, 2, "c", "3r"), eats(1, 2, "c", "5r"), eats(2, 2, "c", "r"), eats(3, 2, "c", "r"),
	}, ends(0, "V"), ends(0, "1U"), ends(0, "1W"), ends(0, "23U"), ends(0, "23W"), ends(0, "25U"), ends(0, "25W"), ends(0, "4U"), ends(0, "4W"),
		ends(1, "3U"), ends(1, "3W"), ends(1, "5U"), ends(1, "5W"), ends(2, "U"), ends(2, "W"), ends(3, "U"), ends(3, "W"))
	want.Start = 3
	if text(got) != text(want) {
		t.Errorf("Free: %v, not %v", got, want)
	}
	for _, d := range []api.Desc{desc.Same(api.Bytes), desc.Same(api.Scalars), desc.Empty(api.Bytes, api.Scalars), from(5, nil)} {
		if got := wantFree(t, d); text(got) != text(d) {
			t.Errorf("Free(%v): %v", d, got)
		}
	}
}

// chance makes descriptions by chance, the same ones each time.
type chance struct{ *rand.Rand }

func (r chance) guards(n int) [][]api.Span {
	var l [][]api.Span
	for range n {
		l = append(l, [][]api.Span{{{Lo: 'a', Hi: 'a'}}, {{Lo: 'b', Hi: 'b'}}, {{Lo: 'a', Hi: 'b'}}}[r.Intn(3)])
	}
	return l
}

func (r chance) terms(n int) []api.Term {
	var l []api.Term
	for range r.Intn(3) {
		if n > 0 && r.Intn(3) == 0 {
			l = append(l, term.Copy(r.Intn(n), r.Intn(2)))
			continue
		}
		l = append(l, term.Const('x'+rune(r.Intn(3))))
	}
	return l
}

// desc is a well-formed description, of which many rules are epsilon rules.
func (r chance) desc() api.Desc {
	for {
		d := desc.Empty(api.Sort(1+r.Intn(2)), api.Sort(1+r.Intn(2)))
		d.States = 1 + r.Intn(5)
		d.Start = r.Intn(d.States)
		for range r.Intn(10) {
			n := max(0, r.Intn(5)-2)
			d.Rules = append(d.Rules, api.Rule{From: r.Intn(d.States), To: r.Intn(d.States), Guards: r.guards(n), Eat: min(n, 1+r.Intn(2)), Out: r.terms(n)})
		}
		for range r.Intn(4) {
			n := max(0, r.Intn(5)-2)
			d.Finals = append(d.Finals, api.Final{From: r.Intn(d.States), Guards: r.guards(n), Out: r.terms(n)})
		}
		if desc.Check(d) == api.OK {
			return d
		}
	}
}

// P8.1, P8.2, by the chapter's words, and P8.3: many descriptions.
func TestModel(t *testing.T) {
	r := chance{rand.New(rand.NewSource(8))}
	related, epsilons := 0, 0
	for range 5000 {
		d := r.desc()
		got := wantFree(t, d)
		if desc.Check(got) != api.OK || !desc.Free(got) {
			t.Fatalf("Free(%v): %v", d, got)
		}
		if !desc.Free(d) {
			epsilons++
		}
		for n := range 5 {
			var x []rune
			for range n {
				x = append(x, 'a'+rune(r.Intn(2)))
			}
			l, e := run.Outputs(d, x, math.MaxInt)
			m, f := run.Outputs(got, x, math.MaxInt)
			if e != api.OK || f != api.OK || fmt.Sprint(l) != fmt.Sprint(m) {
				t.Fatalf("Free(%v) of %q: %v, not %v", d, string(x), m, l)
			}
			related += min(1, len(l))
		}
		if again := wantFree(t, got); text(again) != text(got) {
			t.Fatalf("Free(%v) once more: %v", got, again)
		}
	}
	if related < 2000 || epsilons < 2000 {
		t.Errorf("few inputs are related to something, or few descriptions have epsilon rules: %d, %d", related, epsilons)
	}
}

// chain is so many states, of which each has some epsilon rules to the next one.
func chain(states, rules int, write string) []api.Rule {
	var l []api.Rule
	for q := range states - 1 {
		for range rules {
			l = append(l, eats(q, q+1, "", write))
		}
	}
	return l
}

// P8.1: what isn't well formed.
func TestInvalid(t *testing.T) {
	broken, cyclic := desc.Same(api.Bytes), from(3, chain(3, 1, "x"), ends(0, ""))
	broken.Rules[0].Eat = 0
	cyclic.Rules = append(cyclic.Rules, eats(2, 0, "", ""))
	loop := from(2000, []api.Rule{eats(0, 0, "", "")})
	for what, d := range map[string]api.Desc{"zero": {}, "broken": broken, "a cycle": cyclic, "a loop": loop} {
		wantErrors(t, what, d, api.ErrInvalid, api.ErrInvalid)
	}
}

// P8.1: how many ways there may be.
func TestManyWays(t *testing.T) {
	wide := func(rules int) api.Desc { return from(2, chain(2, rules, "")) }
	wantErrors(t, "as many as may be, over one state", wide(api.MaxRules-2), api.OK, api.OK)
	wantErrors(t, "one more", wide(api.MaxRules-1), api.ErrLong, api.ErrLong)
	if n, e := epsilon.Ways(wide(api.MaxRules - 2)); n != api.MaxRules || e != api.OK {
		t.Errorf("Ways: %d, %d", n, e)
	}
	// 1 + 2 + .. + 90 = 4095.
	wantErrors(t, "a chain", from(90, chain(90, 1, "")), api.OK, api.OK)
	wantErrors(t, "a chain and a state", from(91, chain(90, 1, "")), api.OK, api.OK)
	wantErrors(t, "a chain and two states", from(92, chain(90, 1, "")), api.ErrLong, api.ErrLong)
	wantErrors(t, "a longer chain", from(91, chain(91, 1, "")), api.ErrLong, api.ErrLong)
	wantErrors(t, "the longest chain", from(api.MaxStates, chain(api.MaxStates, 1, "")), api.ErrLong, api.ErrLong)
	wantErrors(t, "more ways than numbers tell", from(api.MaxStates, chain(api.MaxStates, 4, "")), api.ErrLong, api.ErrLong)
	wantErrors(t, "a wide chain", from(3, chain(3, 2048, "")), api.ErrLong, api.ErrLong)
	if n, e := epsilon.Ways(from(api.MaxStates, nil)); n != api.MaxStates || e != api.OK {
		t.Errorf("Ways: %d, %d", n, e)
	}
	// How long what a way writes is counts for nothing, where nothing comes behind it.
	wantErrors(t, "long ways", from(90, chain(90, 1, strings.Repeat("x", api.MaxOut))), api.OK, api.OK)
	wantFree(t, from(9, chain(9, 1, strings.Repeat("x", api.MaxOut)), ends(0, "")))
}

// P8.2: how many rules and finals there may be.
func TestManyRules(t *testing.T) {
	for _, n := range []int{0, 1} {
		want := api.OK
		if n == 1 {
			want = api.ErrLong
		}
		// The rules of the last state are those of both; the first one has one of its own.
		rules := append(chain(2, 1, ""), slices.Repeat([]api.Rule{eats(1, 1, "a", "")}, api.MaxRules/2)...)
		for range n {
			rules = append(rules, eats(0, 0, "b", ""))
		}
		wantErrors(t, "rules", from(2, rules), api.OK, want)
		finals := slices.Repeat([]api.Final{ends(1, "")}, api.MaxRules/2)
		for range n {
			finals = append(finals, ends(0, ""))
		}
		wantErrors(t, "finals", from(2, chain(2, 1, ""), finals...), api.OK, want)
	}
	// More of them than memory would hold.
	rules := append(chain(2, 2048, ""), slices.Repeat([]api.Rule{eats(1, 1, "a", "")}, 2048)...)
	wantErrors(t, "very many rules", from(2, rules), api.OK, api.ErrLong)
	wantErrors(t, "very many finals", from(2, chain(2, 4000, ""), slices.Repeat([]api.Final{ends(1, "")}, api.MaxRules)...), api.OK, api.ErrLong)
}

// P8.2: how much a rule or a final may write.
func TestLongOut(t *testing.T) {
	for _, n := range []int{0, 1} {
		want := api.OK
		if n == 1 {
			want = api.ErrLong
		}
		x := func(n int) string { return strings.Repeat("x", n) }
		wantErrors(t, "a rule", from(2, []api.Rule{eats(0, 1, "", x(60)), eats(1, 0, "a", x(4+n))}), api.OK, want)
		wantErrors(t, "a rule behind two", from(3, []api.Rule{eats(0, 1, "", x(32)), eats(1, 2, "", x(32)), eats(2, 0, "a", x(n))}), api.OK, want)
		wantErrors(t, "a final", from(2, []api.Rule{eats(0, 1, "", x(60))}, ends(1, x(4+n))), api.OK, want)
		wantErrors(t, "a final behind two", from(3, []api.Rule{eats(0, 1, "", x(32+n)), eats(1, 2, "", x(32))}, ends(2, "")), api.OK, want)
		wantErrors(t, "the rule ahead", from(3, []api.Rule{eats(0, 1, "", x(32+n)), eats(1, 2, "", x(32)), eats(1, 1, "a", x(32)), eats(2, 0, "a", "")}), api.OK, want)
	}
}

// roomy is a list with room behind it, in which something stands.
func roomy[T any](l []T, behind T) []T {
	return append(slices.Clip(slices.Clone(l)), behind, behind)[:len(l)]
}

// roomyDesc is a description with room behind all of its lists.
func roomyDesc() api.Desc {
	copied := eats(1, 0, "ab", "x")
	copied.Out = append(copied.Out, term.Copy(1, 0))
	d := from(3, []api.Rule{eats(0, 1, "", "p"), eats(1, 2, "", "q"), copied, eats(2, 2, "c", "y")},
		api.Final{From: 1, Guards: each("d"), Out: []api.Term{term.Copy(0, 0)}}, ends(2, "z"))
	guards := func(l [][]api.Span) [][]api.Span {
		for i := range l {
			l[i] = roomy(l[i], api.Span{Lo: 66})
		}
		return roomy(l, []api.Span{{Lo: 67}})
	}
	terms := func(l []api.Term) []api.Term {
		for i := range l {
			l[i].Parts = roomy(l[i].Parts, api.Part{At: 66})
		}
		return roomy(l, api.Term{Sum: 66})
	}
	for i, r := range d.Rules {
		d.Rules[i].Guards, d.Rules[i].Out = guards(r.Guards), terms(r.Out)
	}
	for i, f := range d.Finals {
		d.Finals[i].Guards, d.Finals[i].Out = guards(f.Guards), terms(f.Out)
	}
	d.Rules, d.Finals = roomy(d.Rules, api.Rule{From: 66}), roomy(d.Finals, api.Final{From: 66})
	return d
}

// whole is a description as a text, with all that lies in its lists' room.
func whole(d api.Desc) string {
	out := text(d)
	wide := func(g [][]api.Span, l []api.Term) {
		for _, s := range g[:cap(g)] {
			out += fmt.Sprint(s[:cap(s)])
		}
		for _, x := range l[:cap(l)] {
			out += fmt.Sprint(x, x.Parts[:cap(x.Parts)])
		}
	}
	for _, r := range d.Rules[:cap(d.Rules)] {
		out += fmt.Sprint(r)
		wide(r.Guards, r.Out)
	}
	for _, f := range d.Finals[:cap(d.Finals)] {
		out += fmt.Sprint(f)
		wide(f.Guards, f.Out)
	}
	return out
}

// scrawl writes into guards and terms, and what they hold, their lists' room too.
func scrawl(g [][]api.Span, l []api.Term) {
	for _, s := range g {
		for i := range s[:cap(s)] {
			s[:cap(s)][i].Lo = -7
		}
	}
	for _, x := range l {
		for i := range x.Parts[:cap(x.Parts)] {
			x.Parts[:cap(x.Parts)][i].Up = -7
		}
	}
	for i := range g[:cap(g)] {
		g[:cap(g)][i] = nil
	}
	for i := range l[:cap(l)] {
		l[:cap(l)][i] = api.Term{Base: -7}
	}
}

// Rule 4: what is handed in isn't changed, its spare room neither; what is answered is new memory, of which no two lists share any.
func TestMemory(t *testing.T) {
	d := roomyDesc()
	before := whole(d)
	got := wantFree(t, d)
	want := text(got)
	for i := range got.Rules {
		scrawl(got.Rules[i].Guards, got.Rules[i].Out)
		got.Rules[i] = api.Rule{}
		again, _ := epsilon.Free(d)
		if fmt.Sprint(got.Rules[i+1:]) != fmt.Sprint(again.Rules[i+1:]) || fmt.Sprint(got.Finals) != fmt.Sprint(again.Finals) {
			t.Errorf("what was answered shares memory within, or with what was handed in: rule %d", i)
		}
	}
	for i := range got.Finals {
		scrawl(got.Finals[i].Guards, got.Finals[i].Out)
		got.Finals[i] = api.Final{}
		again, _ := epsilon.Free(d)
		if fmt.Sprint(got.Finals[i+1:]) != fmt.Sprint(again.Finals[i+1:]) {
			t.Errorf("what was answered shares memory within, or with what was handed in: final %d", i)
		}
	}
	if whole(d) != before {
		t.Error("what was handed in is changed")
	}
	if again, _ := epsilon.Free(d); text(again) != want {
		t.Errorf("Free once more: %v", again)
	}
}
