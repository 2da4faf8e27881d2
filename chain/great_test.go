package chain_test

import (
	"fmt"
	"math/rand"
	"testing"

	"umlaut/api"
	"umlaut/chain"
	"umlaut/desc"
	"umlaut/span"
	"umlaut/term"
	"umlaut/word"
)

// newRand is a source of numbers.
func newRand(seed int64) *rand.Rand { return rand.New(rand.NewSource(seed)) }

// wild is a set of many spans.
func wild(r *rand.Rand, top, n int) []api.Span {
	var g []api.Span
	for range n {
		x := r.Intn(top)
		g = append(g, api.Span{Lo: x, Hi: min(top, x+r.Intn(1+top/n/3))})
	}
	return span.Norm(g)
}

// Rule 1: whatever is handed in, it ends, and what is answered is well formed.
func TestGreat(t *testing.T) {
	r := newRand(1)
	ends := func(what string, a, b api.Desc) {
		t.Helper()
		got, e := chain.Chain(a, b, 1024)
		if e == api.OK {
			wantHead(t, a, b, got)
		} else if e != api.ErrLong || text(got) != text(api.Desc{}) {
			t.Errorf("%s: %d, %d rules", what, e, len(got.Rules))
		}
	}
	four := api.Term{Take: 21, Parts: []api.Part{{At: 3, Take: 6}, {At: 2, Take: 6, Up: 4}, {At: 1, Take: 6, Up: 6}, {At: 0, Take: 3, Up: 9}}}
	bytes := api.Desc{In: api.Bytes, Out: api.Scalars, States: 1, Finals: []api.Final{{}}}
	symbols := api.Desc{In: api.Scalars, Out: api.Scalars, States: 1, Finals: []api.Final{{}}}
	for i := range 40 {
		x := api.Rule{Guards: window(wild(r, 255, 60), wild(r, 255, 60), wild(r, 255, 60), wild(r, 255, 60)), Eat: 4}
		y := api.Rule{Guards: window(wild(r, 0xc000, 60), wild(r, 0xc000, 60), wild(r, 0xc000, 60)), Eat: 2}
		for k := range 64 {
			four.Sum = k + i%7
			x.Out = append(x.Out, four)
			y.Out = append(y.Out, term.Copy(r.Intn(3), k))
		}
		bytes.Rules, symbols.Rules = append(bytes.Rules, x), append(symbols.Rules, y)
	}
	many := func(states int, out ...api.Term) api.Desc {
		b := api.Desc{In: api.Scalars, Out: api.Scalars, States: states, Finals: []api.Final{{}}}
		for i := range api.MaxRules {
			b.Rules = append(b.Rules, api.Rule{From: i % states, To: r.Intn(states), Guards: window(wild(r, 0xd000, 60)), Eat: 1, Out: out})
		}
		return b
	}
	ends("bytes, copied", bytes, desc.Same(api.Scalars))
	ends("symbols, copied", symbols, desc.Same(api.Scalars))
	bytes.Rules, symbols.Rules = bytes.Rules[:2], symbols.Rules[:1]
	ends("bytes, 64 states, nothing written", bytes, many(64))
	ends("symbols, 512 states, all copied", symbols, many(512, term.Copy(0, 0)))
	// Each of these reads all symbols but one.
	b := many(1)
	for i := range b.Rules {
		b.Rules[i].Guards = window(span.Minus(word.Domain(api.Scalars), set(3*i, 3*i)))
	}
	ends("all but one", symbols, b)
}

// roomy is a list with room behind it, in which something stands.
func roomy[T any](l []T, behind T) []T {
	return append(l[:len(l):len(l)], behind, behind)[:len(l)]
}

// roomyDesc is a description with room behind all of its lists.
func roomyDesc(d api.Desc) api.Desc {
	guards := func(l [][]api.Span) [][]api.Span {
		for i := range l {
			l[i] = roomy(l[i], api.Span{Lo: 66})
		}
		return roomy(l, []api.Span{{Lo: 67}})
	}
	terms := func(l []api.Term) []api.Term {
		for i := range l {
			l[i].Parts = roomy(l[i].Parts, api.Part{At: 66})
		}
		return roomy(l, api.Term{Sum: 66})
	}
	for i, r := range d.Rules {
		d.Rules[i].Guards, d.Rules[i].Out = guards(r.Guards), terms(r.Out)
	}
	for i, f := range d.Finals {
		d.Finals[i].Guards, d.Finals[i].Out = guards(f.Guards), terms(f.Out)
	}
	d.Rules, d.Finals = roomy(d.Rules, api.Rule{From: 66}), roomy(d.Finals, api.Final{From: 66})
	return d
}

// whole is a description as a text, with all that lies in its lists' room.
func whole(d api.Desc) string {
	out := text(d)
	wide := func(g [][]api.Span, l []api.Term) {
		for _, s := range g[:cap(g)] {
			out += fmt.Sprint(s[:cap(s)])
		}
		for _, x := range l[:cap(l)] {
			out += fmt.Sprint(x, x.Parts[:cap(x.Parts)])
		}
	}
	for _, r := range d.Rules[:cap(d.Rules)] {
		out += fmt.Sprint(r)
		wide(r.Guards, r.Out)
	}
	for _, f := range d.Finals[:cap(d.Finals)] {
		out += fmt.Sprint(f)
		wide(f.Guards, f.Out)
	}
	return out
}

// scrawl writes into lists of spans and terms, and what they hold, their lists' room too.
func scrawl(g [][]api.Span, l []api.Term) {
	for _, s := range g {
		for i := range s[:cap(s)] {
			s[:cap(s)][i].Lo = -7
		}
	}
	for _, x := range l {
		for i := range x.Parts[:cap(x.Parts)] {
			x.Parts[:cap(x.Parts)][i].Up = -7
		}
	}
	clear(g[:cap(g)])
	for i := range l[:cap(l)] {
		l[:cap(l)][i] = api.Term{Base: -7}
	}
}

// Rule 4: what is handed in isn't changed, its spare room neither; what is answered is new memory, of which no two lists share any.
func TestMemory(t *testing.T) {
	any := set('a', 'a', 'c', 'd')
	a := roomyDesc(scalars([]api.Rule{
		{Guards: window(any, any), Eat: 1, Out: []api.Term{term.Copy(0, 0), term.Copy(1, 0)}},
		{To: 1, Guards: window(any), Eat: 1},
		eats(1, 0, "b", "y"),
	}, api.Final{Guards: window(any), Out: []api.Term{term.Copy(0, 0)}}, ends(1, "z"), api.Final{Guards: window(any, any)}))
	b := roomyDesc(scalars([]api.Rule{
		{Guards: window(set('a', 'z')), Eat: 1, Out: []api.Term{term.Copy(0, 1), term.Const('x')}},
		{To: 1, Guards: window(set('c', 'y')), Eat: 1, Out: []api.Term{term.Copy(0, 2), term.Copy(0, 3)}},
		{From: 1, Guards: window(set('a', 'z')), Eat: 1},
	}, ends(0, "end"), ends(1, ""), api.Final{From: 1, Out: []api.Term{{Take: 21, Sum: 'e', Parts: []api.Part{}}}}))
	aWas, bWas := whole(a), whole(b)
	got, _ := wantChain(t, a, b, words([]rune("abc"), 3))
	want := text(got)
	if len(got.Rules) < 8 || len(got.Finals) < 8 {
		t.Fatalf("Chain: %v", got)
	}
	for i := range got.Rules {
		scrawl(got.Rules[i].Guards, got.Rules[i].Out)
		got.Rules[i] = api.Rule{}
		again, _ := chain.Chain(a, b, 4)
		if fmt.Sprint(got.Rules[i+1:], got.Finals) != fmt.Sprint(again.Rules[i+1:], again.Finals) {
			t.Errorf("what was answered shares memory within, or with what was handed in: rule %d", i)
		}
	}
	for i := range got.Finals {
		scrawl(got.Finals[i].Guards, got.Finals[i].Out)
		got.Finals[i] = api.Final{}
		again, _ := chain.Chain(a, b, 4)
		if fmt.Sprint(got.Finals[i+1:]) != fmt.Sprint(again.Finals[i+1:]) {
			t.Errorf("what was answered shares memory within, or with what was handed in: final %d", i)
		}
	}
	if whole(a) != aWas || whole(b) != bWas {
		t.Error("what was handed in is changed")
	}
	if again, _ := chain.Chain(a, b, 4); text(again) != want {
		t.Errorf("Chain once more: %v", again)
	}
}
