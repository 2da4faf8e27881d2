package chain_test

import (
	"fmt"
	"math/rand"
	"slices"
	"testing"

	"umlaut/api"
	"umlaut/chain"
	"umlaut/desc"
	"umlaut/run"
	"umlaut/span"
	"umlaut/term"
	"umlaut/word"
)

// most is above how many outputs inputs of the tests have.
const most = 5000

// set is the spans from each first number to the one behind it.
func set(ends ...int) []api.Span {
	var l []api.Span
	for i := 0; i < len(ends); i += 2 {
		l = append(l, api.Span{Lo: ends[i], Hi: ends[i+1]})
	}
	return l
}

// each is guards of one symbol each.
func each(symbols string) [][]api.Span {
	var l [][]api.Span
	for _, x := range symbols {
		l = append(l, set(int(x), int(x)))
	}
	return l
}

// window is guards.
func window(l ...[]api.Span) [][]api.Span { return l }

// consts is terms that write a text's symbols.
func consts(symbols string) []api.Term {
	var l []api.Term
	for _, x := range symbols {
		l = append(l, term.Const(x))
	}
	return l
}

// eats is a rule that reads and eats a text, and writes another one.
func eats(from, to int, read, write string) api.Rule {
	return api.Rule{From: from, To: to, Guards: each(read), Eat: len([]rune(read)), Out: consts(write)}
}

// ends is a final that writes a text.
func ends(from int, write string) api.Final {
	return api.Final{From: from, Out: consts(write)}
}

// scalars is a description from scalars to scalars, of as many states as its rules and finals tell of.
func scalars(rules []api.Rule, finals ...api.Final) api.Desc {
	d := api.Desc{In: api.Scalars, Out: api.Scalars, States: 1, Rules: rules, Finals: finals}
	for _, r := range rules {
		d.States = max(d.States, r.From+1, r.To+1)
	}
	for _, f := range finals {
		d.States = max(d.States, f.From+1)
	}
	return d
}

// brief is the beginning of what is told of descriptions.
func brief(l ...api.Desc) string {
	s := fmt.Sprint(l)
	return s[:min(len(s), 2000)]
}

// text is a description as a text, of which nil and empty lists are one.
func text(d api.Desc) string { return fmt.Sprint(d) }

// outputs is what a description relates an input to.
func outputs(t *testing.T, d api.Desc, x []rune) [][]rune {
	t.Helper()
	l, e := run.Outputs(d, x, most)
	if e != api.OK {
		t.Fatalf("Outputs of %x: %d: %s", x, e, brief(d))
	}
	return l
}

// both is what two descriptions, one behind the other, make of an input, by the chapter's words.
func both(t *testing.T, a, b api.Desc, x []rune) [][]rune {
	t.Helper()
	var l [][]rune
	for _, u := range outputs(t, a, x) {
		l = append(l, outputs(t, b, u)...)
	}
	return word.Sort(l)
}

// words is all words of at most n of some symbols.
func words(symbols []rune, n int) [][]rune {
	out := [][]rune{nil}
	from := 0
	for range n {
		to := len(out)
		for _, w := range out[from:to] {
			for _, x := range symbols {
				out = append(out, append(slices.Clone(w), x))
			}
		}
		from = to
	}
	return out
}

// wantHead asks whether all holds that is said of what Chain answers, but for what it relates.
func wantHead(t *testing.T, a, b, got api.Desc) {
	t.Helper()
	if got.In != a.In || got.Out != b.Out || got.States != a.States*b.States {
		t.Fatalf("Chain: unlike: %s", brief(a, b, got))
	}
	if desc.Check(got) != api.OK || !desc.Free(got) {
		t.Fatalf("Chain: not well formed, or not free: %s", brief(a, b, got))
	}
	for _, r := range got.Rules {
		if !slices.ContainsFunc(a.Rules, func(x api.Rule) bool { return len(x.Guards) == len(r.Guards) && x.Eat == r.Eat }) {
			t.Fatalf("Chain: not one of a's windows: %v: %s", r, brief(a, b, got))
		}
	}
	for _, f := range got.Finals {
		if !slices.ContainsFunc(a.Finals, func(x api.Final) bool { return len(x.Guards) == len(f.Guards) }) {
			t.Fatalf("Chain: not one of a's windows: %v: %s", f, brief(a, b, got))
		}
	}
}

// wantChain asks of two descriptions that may be put together, on some inputs, and counts what they relate these to.
func wantChain(t *testing.T, a, b api.Desc, inputs [][]rune) (api.Desc, int) {
	t.Helper()
	got, e := chain.Chain(a, b, a.States*b.States)
	if e != api.OK {
		t.Fatalf("Chain: %d: %s", e, brief(a, b))
	}
	wantHead(t, a, b, got)
	n := 0
	for _, x := range inputs {
		want := both(t, a, b, x)
		if l := outputs(t, got, x); fmt.Sprint(l) != fmt.Sprint(want) {
			t.Fatalf("Chain: of %x: %x, not %x: %s", x, l, want, brief(a, b, got))
		}
		n += len(want)
	}
	return got, n
}

// small tells whether two descriptions are a small pair, by the chapter's words.
func small(a, b api.Desc) bool {
	simple := func(l []api.Term) bool {
		return len(l) <= 2 && !slices.ContainsFunc(l, func(x api.Term) bool {
			return fmt.Sprint(x) != fmt.Sprint(term.Const(rune(x.Sum))) && (len(x.Parts) != 1 || fmt.Sprint(x) != fmt.Sprint(term.Copy(x.Parts[0].At, x.Sum)))
		})
	}
	long := func(g []api.Span) bool { return len(g) > 4 }
	for _, r := range a.Rules {
		if !simple(r.Out) || slices.ContainsFunc(r.Guards, long) {
			return false
		}
	}
	for _, f := range a.Finals {
		if !simple(f.Out) || slices.ContainsFunc(f.Guards, long) {
			return false
		}
	}
	if slices.ContainsFunc(b.Rules, func(r api.Rule) bool { return len(r.Out) > 8 || slices.ContainsFunc(r.Guards, long) }) {
		return false
	}
	if slices.ContainsFunc(b.Finals, func(f api.Final) bool { return len(f.Out) > 8 }) {
		return false
	}
	return max(len(a.Rules), len(a.Finals), len(b.Rules), len(b.Finals)) <= 8 && b.States <= 4
}

// try is a source of numbers for descriptions.
type try struct{ *rand.Rand }

// guard is a set of a sort's symbols.
func (r try) guard(s api.Sort) []api.Span {
	sets := [][]api.Span{set('a', 'a'), set('b', 'b'), set('a', 'b'), set('a', 'd'), set('b', 'b', 'd', 'd'), set('a', 'a', 'c', 'c', 'e', 'e', 0xf8, 0xff), span.Minus(word.Domain(s), set('a', 'a')), word.Domain(s)}
	if s == api.Scalars {
		sets = append(sets, set(0xd7ff, 0xd7ff, 0xe000, 0xe000), set(0x10ff00, api.MaxRune))
	}
	return slices.Clone(sets[r.Intn(len(sets))])
}

// simple is a term.Const or a term.Copy, of windows of n symbols.
func (r try) simple(n int) api.Term {
	if n == 0 || r.Intn(3) == 0 {
		return term.Const(rune('a' + r.Intn(5)))
	}
	return term.Copy(r.Intn(n), r.Intn(3)-1)
}

// term is a term of windows of n symbols, of any kind.
func (r try) term(d api.Desc, n int) api.Term {
	if n == 0 || r.Intn(2) == 0 {
		return r.simple(n)
	}
	x := api.Term{Take: 21}
	if d.Out == api.Bytes {
		x.Drop, x.Take = r.Intn(3), 1+r.Intn(8)
	}
	if d.In == api.Scalars {
		x.Parts = []api.Part{{At: r.Intn(n), Take: 21}}
		return x
	}
	for up := 0; up < 7; up += 1 + r.Intn(3) {
		x.Parts = append(x.Parts, api.Part{At: r.Intn(n), Drop: r.Intn(3), Take: 1 + r.Intn(6), Up: up})
	}
	x.Parts = x.Parts[:min(len(x.Parts), 4)]
	x.Sum = []int{0, 0, 1, 'a', 0xd7f0}[r.Intn(5)]
	return x
}

// terms is at most so many terms; where they are to be simple, they are.
func (r try) terms(d api.Desc, n, most int, simple bool) []api.Term {
	var out []api.Term
	for range r.Intn(most + 1) {
		if simple {
			out = append(out, r.simple(n))
		} else {
			out = append(out, r.term(d, n))
		}
	}
	return out
}

// first is a description that may stand ahead.
func (r try) first(simple bool) api.Desc {
	for {
		d := api.Desc{In: []api.Sort{api.Bytes, api.Scalars}[r.Intn(2)], Out: api.Scalars, States: 1 + r.Intn(3)}
		d.Start = r.Intn(d.States)
		guards := func(least int) [][]api.Span {
			var l [][]api.Span
			for range max(least, r.Intn(r.Intn(5)+1)) {
				l = append(l, r.guard(d.In))
			}
			return l
		}
		for range r.Intn(7) {
			g := guards(1)
			d.Rules = append(d.Rules, api.Rule{From: r.Intn(d.States), To: r.Intn(d.States), Guards: g, Eat: 1 + r.Intn(len(g)), Out: r.terms(d, len(g), 2, simple)})
		}
		for range r.Intn(4) {
			g := guards(0)
			d.Finals = append(d.Finals, api.Final{From: r.Intn(d.States), Guards: g, Out: r.terms(d, len(g), 2, simple)})
		}
		if desc.Check(d) == api.OK {
			return d
		}
	}
}

// second is a description that may stand behind.
func (r try) second() api.Desc {
	for {
		d := api.Desc{In: api.Scalars, Out: []api.Sort{api.Bytes, api.Scalars}[r.Intn(2)], States: 1 + r.Intn(4)}
		d.Start = r.Intn(d.States)
		for range r.Intn(9) {
			d.Rules = append(d.Rules, api.Rule{From: r.Intn(d.States), To: r.Intn(d.States), Guards: window(r.guard(d.In)), Eat: 1, Out: r.terms(d, 1, 2, false)})
		}
		for range 1 + r.Intn(3) {
			d.Finals = append(d.Finals, api.Final{From: r.Intn(d.States), Out: r.terms(d, 0, 2, false)})
		}
		if desc.Check(d) == api.OK {
			return d
		}
	}
}

// inputs is all words of three symbols, and some longer ones.
func (r try) inputs(s api.Sort) [][]rune {
	symbols := []rune{'a', 'b', 'd', 0xfb}
	if s == api.Scalars {
		symbols = []rune{'a', 'b', 0xd7ff, 0x10ffff}
	}
	out := words(symbols, 2)
	for range 20 {
		var w []rune
		for range 3 + r.Intn(3) {
			w = append(w, symbols[r.Intn(len(symbols))])
		}
		out = append(out, w)
	}
	return out
}

// few tells whether neither of the two relates an input to more outputs than the tests can ask for.
func few(a, b api.Desc, inputs [][]rune) bool {
	for _, x := range inputs {
		l, e := run.Outputs(a, x, 40)
		if e != api.OK {
			return false
		}
		for _, u := range l {
			if _, e := run.Outputs(b, u, 40); e != api.OK {
				return false
			}
		}
	}
	return true
}

// P14.2: descriptions of all kinds; small pairs, and others.
func TestMany(t *testing.T) {
	r := try{rand.New(rand.NewSource(14))}
	made, some, wide := 0, 0, 0
	for i := range 2400 {
		a, b := r.first(i%2 == 0), r.second()
		inputs := r.inputs(a.In)
		if !few(a, b, inputs) {
			continue
		}
		if i%2 == 0 && !small(a, b) {
			t.Fatalf("no small pair: %s", brief(a, b))
		}
		got, n := wantChain(t, a, b, inputs)
		made++
		if n > 2 {
			some++
		}
		if n > 2 && desc.Ahead(got) > 1 {
			wide++
		}
	}
	if made < 2000 || some < 350 || wide < 20 {
		t.Errorf("few descriptions: %d, %d, %d", made, some, wide)
	}
}
