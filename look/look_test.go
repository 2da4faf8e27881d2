package look_test

import (
	"fmt"
	"math"
	"math/rand"
	"slices"
	"strings"
	"testing"

	"umlaut/api"
	"umlaut/codec"
	"umlaut/desc"
	"umlaut/look"
	"umlaut/run"
	"umlaut/span"
	"umlaut/term"
	"umlaut/word"
)

// set is the numbers from each first one to the one behind it.
func set(ends ...int) []api.Span {
	var l []api.Span
	for i := 0; i < len(ends); i += 2 {
		l = append(l, api.Span{Lo: ends[i], Hi: ends[i+1]})
	}
	return l
}

// each is guards of one symbol each.
func each(symbols string) [][]api.Span {
	var l [][]api.Span
	for _, x := range symbols {
		l = append(l, set(int(x), int(x)))
	}
	return l
}

// window is guards.
func window(l ...[]api.Span) [][]api.Span { return l }

// not is all symbols of a sort but some.
func not(s api.Sort, l []api.Span) []api.Span { return span.Minus(word.Domain(s), l) }

// consts is terms that write a text's symbols.
func consts(symbols string) []api.Term {
	var l []api.Term
	for _, x := range symbols {
		l = append(l, term.Const(x))
	}
	return l
}

// eats is a rule that reads a text, eats so much of it, and writes another text.
func eats(from, to int, read string, eat int, write string) api.Rule {
	return api.Rule{From: from, To: to, Guards: each(read), Eat: eat, Out: consts(write)}
}

// ends is a final that reads a text, and writes another one.
func ends(from int, read, write string) api.Final {
	return api.Final{From: from, Guards: each(read), Out: consts(write)}
}

// from is a description from bytes to bytes.
func from(states int, rules []api.Rule, finals ...api.Final) api.Desc {
	return api.Desc{In: api.Bytes, Out: api.Bytes, States: states, Rules: rules, Finals: finals}
}

// scalars is a description from scalars to scalars, of one state.
func scalars(rules []api.Rule, finals ...api.Final) api.Desc {
	return api.Desc{In: api.Scalars, Out: api.Scalars, States: 1, Rules: rules, Finals: finals}
}

// text is a description as a text, of which nil and empty lists are one.
func text(d api.Desc) string { return fmt.Sprint(d) }

// wantErrors asks all calls; with an error nothing else is answered.
func wantErrors(t *testing.T, what string, d api.Desc, n int, blocks, count, eliminate api.Errno) {
	t.Helper()
	if l, e := look.Blocks(d); e != blocks || (e == api.OK) != (len(l) > 0) {
		t.Errorf("Blocks, %s: %d of them, %d, not %d", what, len(l), e, blocks)
	}
	if n, e := look.Count(d); e != count || (e == api.OK) != (n > 0) {
		t.Errorf("Count, %s: %d, %d, not %d", what, n, e, count)
	}
	c, e := look.Eliminate(d, n)
	if e != eliminate || e != api.OK && text(c) != text(api.Desc{}) {
		t.Errorf("Eliminate, %s: %d, not %d; %d rules", what, e, eliminate, len(c.Rules))
	}
	if e == api.OK && (desc.Check(c) != api.OK || !simple(c)) {
		t.Errorf("Eliminate, %s: not well formed, or it reads more than one symbol at a time", what)
	}
}

// simple tells whether a description reads one symbol at a time.
func simple(d api.Desc) bool {
	return !slices.ContainsFunc(d.Rules, func(r api.Rule) bool { return len(r.Guards) != 1 || r.Eat != 1 }) &&
		!slices.ContainsFunc(d.Finals, func(f api.Final) bool { return len(f.Guards) != 0 })
}

// wantModel asks all calls of a well-formed description that has no epsilon rules, and is within the limits but perhaps those of what is answered.
func wantModel(t *testing.T, d api.Desc) (api.Desc, bool) {
	t.Helper()
	m, e := newModel(d)
	if e != api.OK {
		wantErrors(t, "too many blocks", d, math.MaxInt, e, e, e)
		return api.Desc{}, false
	}
	if l, e := look.Blocks(d); fmt.Sprint(l) != fmt.Sprint(m.blocks) || e != api.OK {
		t.Fatalf("Blocks(%v): %v, %d, not %v", d, l, e, m.blocks)
	}
	n := len(m.places)
	if n > api.MaxStates {
		wantErrors(t, "too many places", d, math.MaxInt, api.OK, api.ErrLong, api.ErrLong)
		return api.Desc{}, false
	}
	wantErrors(t, "too small a budget", d, n-1, api.OK, api.OK, api.ErrBudget)
	if !m.fitsLimits() {
		wantErrors(t, "too many rules", d, n, api.OK, api.OK, api.ErrLong)
		return api.Desc{}, false
	}
	if got, e := look.Count(d); got != n || e != api.OK {
		t.Fatalf("Count(%v): %d, %d, not %d", d, got, e, n)
	}
	c, e := look.Eliminate(d, n)
	if text(c) != text(m.out) || e != api.OK {
		t.Fatalf("Eliminate(%v):\n%v, %d, not\n%v", d, c, e, m.out)
	}
	if desc.Check(c) != api.OK || !simple(c) {
		t.Fatalf("Eliminate(%v): %v: not well formed, or it reads more than one symbol at a time", d, c)
	}
	return c, true
}

// wantSame asks two descriptions of all words of up to n of some symbols.
func wantSame(t *testing.T, a, b api.Desc, symbols []rune, n int) {
	t.Helper()
	var ask func(w []rune)
	ask = func(w []rune) {
		t.Helper()
		wantSameOf(t, a, b, w)
		for _, x := range symbols {
			if len(w) < n {
				ask(append(slices.Clone(w), x))
			}
		}
	}
	ask(nil)
}

// wantSameOf asks two descriptions of one word.
func wantSameOf(t *testing.T, a, b api.Desc, w []rune) {
	t.Helper()
	l, e := run.Outputs(a, w, 200)
	m, f := run.Outputs(b, w, 200)
	if fmt.Sprint(l, e) != fmt.Sprint(m, f) {
		t.Fatalf("%v relates %x to %x, %d; %v to %x, %d", a, w, l, e, b, m, f)
	}
}

// lines makes of each CR LF, and of each other CR, an LF.
func lines() api.Desc {
	cr, lf := set(13, 13), set(10, 10)
	write := consts("\n")
	return scalars([]api.Rule{
		{Guards: window(cr, lf), Eat: 2, Out: write},
		{Guards: window(cr, not(api.Scalars, lf)), Eat: 1, Out: write},
		{Guards: window(not(api.Scalars, cr)), Eat: 1, Out: []api.Term{term.Copy(0, 0)}},
	}, api.Final{}, api.Final{Guards: window(cr), Out: write})
}

// P13.1, P13.2, P13.3: the chapter's example.
func TestExample(t *testing.T) {
	c, _ := wantModel(t, lines())
	cr, lf, others := set(13, 13), set(10, 10), set(0, 9, 11, 12, 14, 0xd7ff, 0xe000, api.MaxRune)
	if l, e := look.Blocks(lines()); fmt.Sprint(l) != fmt.Sprint(window(others, lf, cr)) || e != api.OK {
		t.Errorf("Blocks: %v, %d", l, e)
	}
	if n, e := look.Count(lines()); n != 2 || e != api.OK {
		t.Errorf("Count: %d, %d", n, e)
	}
	copied, broken := term.Copy(0, 0), term.Const(10)
	want := api.Desc{In: api.Scalars, Out: api.Scalars, States: 2, Rules: []api.Rule{
		{From: 0, To: 0, Guards: window(others), Eat: 1, Out: []api.Term{copied}},
		{From: 0, To: 0, Guards: window(lf), Eat: 1, Out: []api.Term{copied}},
		{From: 0, To: 1, Guards: window(cr), Eat: 1},
		{From: 1, To: 0, Guards: window(others), Eat: 1, Out: []api.Term{broken, copied}},
		{From: 1, To: 0, Guards: window(lf), Eat: 1, Out: []api.Term{broken}},
		{From: 1, To: 1, Guards: window(cr), Eat: 1, Out: []api.Term{broken}},
	}, Finals: []api.Final{{From: 0}, {From: 1, Out: []api.Term{broken}}}}
	if text(c) != text(want) {
		t.Errorf("Eliminate: %v", c)
	}
	wantSame(t, lines(), c, []rune("\r\nü"), 5)
}

// P13.1: what may not be, in the order of the errors.
func TestErrors(t *testing.T) {
	for _, d := range []api.Desc{
		{},
		{In: api.Bytes, Out: api.Bytes},
		{In: api.Bytes, Out: 3, States: 1},
		{In: api.Bytes, Out: api.Bytes, States: 1, Start: 1},
		from(1, []api.Rule{eats(0, 1, "a", 1, "")}),
		from(1, []api.Rule{eats(0, 0, "a", 2, "")}),
		from(1, []api.Rule{eats(0, 0, "a", 0, "")}),
		from(1, []api.Rule{eats(0, 0, "abcde", 1, "")}),
		from(1, []api.Rule{{Guards: window(nil), Eat: 1}}),
		from(1, []api.Rule{{Guards: window(set(0, 256)), Eat: 1}}),
		from(1, []api.Rule{{Guards: window(set(3, 4, 1, 2)), Eat: 1}}),
		from(1, []api.Rule{{Guards: each("a"), Eat: 1, Out: []api.Term{term.Copy(1, 0)}}}),
		from(1, nil, ends(-1, "", "")),
		from(1, nil, ends(math.MaxInt, "", "")),
		from(1, nil, api.Final{Out: slices.Repeat(consts("x"), 65)}),
		from(1, slices.Repeat([]api.Rule{eats(0, 0, "a", 1, "")}, api.MaxRules+1)),
		from(2, []api.Rule{eats(0, 1, "", 0, ""), eats(1, 0, "", 0, "")}), // epsilon rules, in a cycle
		from(1, []api.Rule{eats(0, 0, "", 1, "")}),
	} {
		wantErrors(t, text(d), d, 9, api.ErrInvalid, api.ErrInvalid, api.ErrInvalid)
	}
	d := from(2, []api.Rule{eats(0, 0, "a", 1, ""), eats(1, 0, "", 0, "x")})
	for _, n := range []int{math.MinInt, 0, math.MaxInt} {
		wantErrors(t, "an epsilon rule", d, n, api.ErrArg, api.ErrArg, api.ErrArg)
	}
	// All bytes that are even make 128 spans: it isn't told before the epsilon rule is.
	d.Rules = append(d.Rules, halves(1))
	wantErrors(t, "an epsilon rule, and long blocks", d, 0, api.ErrArg, api.ErrArg, api.ErrArg)
	wantErrors(t, "long blocks", from(2, d.Rules[2:]), 0, api.ErrLong, api.ErrLong, api.ErrLong)
	for _, n := range []int{math.MinInt, -1, 0, 1} {
		wantErrors(t, "a small budget", lines(), n, api.OK, api.OK, api.ErrBudget)
	}
	for _, n := range []int{2, 3, math.MaxInt} {
		wantErrors(t, "enough", lines(), n, api.OK, api.OK, api.OK)
	}
}

// halves is a rule that keeps the lowest so many bits of its first symbol.
func halves(take int) api.Rule {
	keep := api.Term{Take: 21, Parts: []api.Part{{Take: take}}}
	return api.Rule{Guards: window(set(0, 255), set('a', 'a')), Eat: 1, Out: []api.Term{keep}}
}

// P13.1, P13.2, P13.3: descriptions of very little.
func TestLittle(t *testing.T) {
	for _, d := range []api.Desc{
		desc.Empty(api.Bytes, api.Bytes),
		desc.Empty(api.Scalars, api.Bytes),
		desc.Same(api.Bytes),
		desc.Same(api.Scalars),
		from(3, nil, ends(2, "", "")),
		from(3, []api.Rule{eats(1, 2, "ab", 1, "x")}, ends(2, "b", "")),
		from(1, nil, ends(0, "abcd", "x")),
		from(1, []api.Rule{eats(0, 0, "abcd", 1, "x")}, ends(0, "bcd", "y")),
		from(1, []api.Rule{eats(0, 0, "abcd", 4, "x")}),
		from(1, []api.Rule{{Guards: each("a"), Eat: 1}}),
		{In: api.Bytes, Out: api.Bytes, States: 2, Start: 1, Rules: []api.Rule{eats(1, 0, "a", 1, "x")}, Finals: []api.Final{ends(0, "", "y")}},
		{In: api.Bytes, Out: api.Bytes, States: 2, Start: 1, Rules: []api.Rule{eats(0, 1, "a", 1, "x")}, Finals: []api.Final{ends(0, "", "y")}},
	} {
		c, ok := wantModel(t, d)
		if !ok {
			t.Fatalf("%v: beyond a limit", d)
		}
		wantSame(t, d, c, []rune("abcd"), 4)
	}
	if l, e := look.Blocks(desc.Empty(api.Scalars, api.Bytes)); fmt.Sprint(l) != "[[{0 55295} {57344 1114111}]]" || e != api.OK {
		t.Errorf("Blocks of nothing: %v, %d", l, e)
	}
	if c, e := look.Eliminate(desc.Empty(api.Scalars, api.Bytes), 1); text(c) != text(desc.Empty(api.Scalars, api.Bytes)) || e != api.OK {
		t.Errorf("Eliminate of nothing: %v, %d", c, e)
	}
	if c, e := look.Eliminate(desc.Same(api.Bytes), 1); text(c) != text(desc.Same(api.Bytes)) || e != api.OK {
		t.Errorf("Eliminate of what changes nothing: %v, %d", c, e)
	}
}

// P13.1: which parts are kept.
func TestKept(t *testing.T) {
	low := set(0, 7)
	reads := func(n, eat, at int) api.Rule {
		x := api.Term{Take: 8, Parts: []api.Part{{At: at, Drop: 1, Take: 2}}}
		return api.Rule{Guards: slices.Repeat(window(low), n), Eat: eat, Out: []api.Term{x}}
	}
	ahead := api.Rule{Guards: window(low, low, low), Eat: 1}
	final := api.Final{Guards: window(low, low), Out: reads(2, 1, 1).Out}
	apart := window(set(0, 1), set(2, 3), set(4, 5), set(6, 7), set(8, 255))
	together := window(low, set(8, 255))
	for _, c := range []struct {
		what string
		d    api.Desc
		want [][]api.Span
	}{
		{"the only place", from(1, []api.Rule{reads(1, 1, 0)}), together},
		{"the last place, all eaten", from(1, []api.Rule{reads(3, 3, 2)}), together},
		{"the last place, looking ahead by 1", from(1, []api.Rule{reads(3, 2, 2)}), together},
		{"the last place, looking ahead by 2", from(1, []api.Rule{reads(3, 1, 2)}), apart},
		{"the only place, another rule looking ahead by 2", from(1, []api.Rule{reads(1, 1, 0), ahead}), apart},
		{"the first place", from(1, []api.Rule{reads(2, 2, 0)}), apart},
		{"the place in the middle", from(1, []api.Rule{reads(3, 3, 1)}), apart},
		{"the last place of a final", from(1, nil, final), apart},
		{"the first place, of a state that never comes", from(2, []api.Rule{{From: 1, Guards: reads(2, 2, 0).Guards, Eat: 2, Out: reads(2, 2, 0).Out}}), apart},
		{"a final looking ahead is no rule", from(1, []api.Rule{reads(1, 1, 0)}, api.Final{Guards: window(low, low, low)}), together},
	} {
		if l, e := look.Blocks(c.d); fmt.Sprint(l) != fmt.Sprint(c.want) || e != api.OK {
			t.Errorf("%s: %v, %d", c.what, l, e)
		}
		wantModel(t, c.d)
	}
}

// P13.1: parts keep symbols of their own guards apart alone, and these by what they take.
func TestKeptBits(t *testing.T) {
	x := func(l ...api.Part) []api.Term { return []api.Term{{Take: 8, Parts: l}} }
	two := func(g []api.Span, out []api.Term) api.Rule {
		return api.Rule{Guards: window(g, set(0, 255)), Eat: 2, Out: out}
	}
	for _, c := range []struct {
		what  string
		rules []api.Rule
		want  [][]api.Span
	}{
		{"one guard", []api.Rule{two(set(8, 11), x(api.Part{Take: 1}))}, window(set(0, 7, 12, 255), set(8, 8, 10, 10), set(9, 9, 11, 11))},
		{"two parts", []api.Rule{two(set(8, 11), x(api.Part{Take: 1}, api.Part{Drop: 1, Take: 1, Up: 1}))}, window(set(0, 7, 12, 255), set(8, 8), set(9, 9), set(10, 10), set(11, 11))},
		{"two guards that meet", []api.Rule{two(set(0, 3), x(api.Part{Take: 1})), two(set(2, 5), x(api.Part{Drop: 1, Take: 1}))},
			window(set(0, 0), set(1, 1), set(2, 2), set(3, 3), set(4, 5), set(6, 255))},
		{"two guards of one part", []api.Rule{two(set(0, 3), x(api.Part{Take: 1})), two(set(8, 11), x(api.Part{Take: 1}))},
			window(set(0, 0, 2, 2), set(1, 1, 3, 3), set(4, 7, 12, 255), set(8, 8, 10, 10), set(9, 9, 11, 11))},
		{"nothing of a byte", []api.Rule{two(set(0, 3), x(api.Part{Drop: 8, Take: 2}, api.Part{Drop: 20, Take: 6, Up: 20}))}, window(set(0, 3), set(4, 255))},
		{"more than a byte has", []api.Rule{two(set(0, 255), x(api.Part{Drop: 7, Take: 6, Up: 2}))}, window(set(0, 127), set(128, 255))},
		{"a part that counts for nothing", []api.Rule{two(set(0, 3), []api.Term{{Drop: 20, Take: 1, Parts: []api.Part{{Take: 1}}}})}, window(set(0, 0, 2, 2), set(1, 1, 3, 3), set(4, 255))},
	} {
		d := from(1, c.rules)
		if l, e := look.Blocks(d); fmt.Sprint(l) != fmt.Sprint(c.want) || e != api.OK {
			t.Errorf("%s: %v, %d", c.what, l, e)
		}
		wantModel(t, d)
	}
	d := scalars([]api.Rule{{Guards: window(set(0xd7fe, 0xd7ff, 0xe000, 0xe001), set('a', 'a')), Eat: 1, Out: []api.Term{term.Copy(0, 0)}}})
	c, _ := wantModel(t, d)
	if l, _ := look.Blocks(d); len(l) != 6 {
		t.Errorf("copies of scalars: %v", l)
	}
	wantSame(t, d, c, []rune{0xd7ff, 0xe000, 'a'}, 4)
}

// P13.3: the order of steps: of each rule first what ends with it, then what goes on behind it.
func TestOrder(t *testing.T) {
	d := from(4, []api.Rule{
		eats(0, 1, "aaa", 1, "p"), eats(2, 2, "a", 1, "v"), eats(1, 2, "a", 1, "q"), eats(0, 1, "aaa", 3, "t"), eats(1, 0, "a", 1, "r"), eats(0, 0, "aaa", 2, "s"),
		eats(2, 0, "a", 1, "u"), eats(0, 2, "a", 1, "w"), eats(1, 1, "ab", 2, "x"), eats(2, 3, "a", 1, "dead"),
	}, ends(0, "aaaa", "y"), ends(1, "aa", "z"), ends(2, "", "o"), ends(2, "a", "i"), ends(2, "", "O"))
	c, ok := wantModel(t, d)
	if !ok || c.States != 10 {
		t.Fatalf("Eliminate: %v", c)
	}
	// From what holds aa, with one more a.
	var got []string
	for _, r := range c.Rules {
		if r.From == 3 && r.Guards[0][0].Lo == 'a' {
			var w []rune
			for _, x := range r.Out {
				w = append(w, rune(x.Sum))
			}
			got = append(got, fmt.Sprint(string(w), r.To))
		}
	}
	if want := "[5 p6 pq4 pqv2 pqu0 pr1 prw2 t7 s1 sw2]"; fmt.Sprint(got) != want {
		t.Errorf("steps: %v, not %v", got, want)
	}
	wantSame(t, d, c, []rune("ab"), 7)
}

// P13.3: what is written is bound to the symbol read last, where a window has it, and to the least symbols of blocks.
func TestBound(t *testing.T) {
	any, pair := set(0, 255), api.Term{Take: 21, Parts: []api.Part{{At: 1, Take: 6}, {At: 0, Take: 2, Up: 6}}}
	d := from(1, []api.Rule{
		{Guards: window(set(0xc2, 0xc3), set(0x80, 0xbf)), Eat: 2, Out: []api.Term{pair, term.Const('-'), term.Copy(1, 0)}},
		{Guards: window(set('a', 'c'), any), Eat: 1, Out: []api.Term{term.Copy(0, 1)}},
	}, api.Final{}, api.Final{Guards: window(set('b', 'c')), Out: []api.Term{term.Copy(0, -1), term.Copy(0, 0)}})
	c, ok := wantModel(t, d)
	if !ok {
		t.Fatal("beyond a limit")
	}
	i := slices.IndexFunc(c.Rules, func(r api.Rule) bool { return len(r.Out) == 3 })
	want := []api.Term{{Take: 21, Sum: 0x80, Parts: []api.Part{{Take: 6}}}, term.Const('-'), term.Copy(0, 0)}
	if fmt.Sprint(c.Rules[i].Out) != fmt.Sprint(want) {
		t.Errorf("bound: %v", c.Rules[i].Out)
	}
	wantSame(t, d, c, []rune{'a', 'b', 0xc2, 0xc3, 0x80, 0xbc}, 3)
	// A window that ends ahead of what was read last: nothing is left open.
	d = from(2, []api.Rule{
		{To: 1, Guards: window(any, any, any), Eat: 1, Out: []api.Term{term.Const('<')}},
		{From: 1, To: 1, Guards: window(set('a', 'b')), Eat: 1, Out: []api.Term{term.Copy(0, 0)}},
	}, ends(1, "", ""))
	if c, ok = wantModel(t, d); !ok {
		t.Fatal("beyond a limit")
	}
	wantSame(t, d, c, []rune("abc"), 4)
}

// singles is so many symbols, none of them next to another one, from a first one on.
func singles(first, n int) []api.Span {
	var l []api.Span
	for i := range n {
		l = append(l, api.Span{Lo: first + 2*i, Hi: first + 2*i})
	}
	return l
}

// P13.1: how many blocks there may be, and how many spans of one.
func TestBlocksLimits(t *testing.T) {
	keeps := func(n int) api.Desc {
		g := set(1000, 1000+n-1)
		return scalars([]api.Rule{{Guards: window(g, g), Eat: 1, Out: []api.Term{term.Copy(0, 0)}}})
	}
	if l, e := look.Blocks(keeps(api.MaxBlocks - 1)); len(l) != api.MaxBlocks || e != api.OK {
		t.Errorf("%d blocks, %d", len(l), e)
	}
	e := api.ErrLong
	wantErrors(t, "a block more", keeps(api.MaxBlocks), math.MaxInt, e, e, e)
	d := scalars([]api.Rule{{Guards: window(word.Domain(api.Scalars), each("a")[0]), Eat: 1, Out: []api.Term{term.Copy(0, 0)}}})
	wantErrors(t, "a block for each symbol", d, math.MaxInt, e, e, e)
	guard := func(g []api.Span) api.Desc { return from(1, []api.Rule{{Guards: window(g), Eat: 1}}) }
	for _, g := range [][]api.Span{singles(0, 64), singles(1, 63), singles(129, 64), singles(0, 1)} {
		wantErrors(t, "64 spans", guard(g), 1, api.OK, api.OK, api.OK)
		wantModel(t, guard(g))
	}
	wantErrors(t, "65 spans", guard(singles(1, 64)), 1, e, e, e)
	wantErrors(t, "65 spans of scalars", scalars([]api.Rule{{Guards: window(singles(1, 63)), Eat: 1}}), 1, e, e, e)
	wantErrors(t, "64 spans of scalars", scalars([]api.Rule{{Guards: window(singles(0, 63)), Eat: 1}}), 1, api.OK, api.OK, api.OK)
	wantErrors(t, "65 spans of scalars, the gap among them", scalars([]api.Rule{{Guards: window(singles(0, 64)), Eat: 1}}), 1, e, e, e)
	wantErrors(t, "evens and odds", from(1, []api.Rule{halves(1)}), 9, e, e, e)
	wantErrors(t, "fours", from(1, []api.Rule{halves(2)}), 9, api.OK, api.OK, api.OK)
	many := from(1, nil)
	for i := range 3000 {
		many.Rules = append(many.Rules, api.Rule{Guards: window(set(i%256, 255)), Eat: 1})
	}
	if l, e := look.Blocks(many); len(l) != 256 || e != api.OK {
		t.Errorf("many guards: %d, %d", len(l), e)
	}
	// More blocks than may be, told by guards alone.
	apart := scalars(nil)
	for i := range 1025 {
		apart.Rules = append(apart.Rules, api.Rule{Guards: window(set(i, 2000)), Eat: 1})
	}
	wantErrors(t, "1026 blocks", apart, 9, e, e, e)
	apart.Rules = apart.Rules[2:]
	if l, e := look.Blocks(apart); len(l) != 1024 || e != api.OK {
		t.Errorf("1024 blocks: %d, %d", len(l), e)
	}
}

// P13.2, P13.3: how many places there may be; the budget is told ahead of what is too long.
func TestCountLimits(t *testing.T) {
	d := func(n int) api.Desc {
		g := set(1000, 1000+n-1)
		return scalars([]api.Rule{{Guards: window(g, set('a', 'a')), Eat: 2, Out: []api.Term{term.Copy(0, 0)}}}, api.Final{})
	}
	if n, e := look.Count(d(1022)); n != 1023 || e != api.OK {
		t.Errorf("Count: %d, %d", n, e)
	}
	c, e := look.Eliminate(d(1022), 1023)
	if e != api.OK || c.States != 1023 || len(c.Rules) != 2*1022 || desc.Check(c) != api.OK {
		t.Fatalf("Eliminate: %d states, %d rules, %d", c.States, len(c.Rules), e)
	}
	wantSame(t, d(1022), c, []rune{1000, 2021, 'a'}, 4)
	// So many places that hold something, and further states behind each other.
	more := func(n int) api.Desc {
		c := d(1022)
		c.States = n + 1
		for i := range n {
			c.Rules = append(c.Rules, api.Rule{From: i, To: i + 1, Guards: each("a"), Eat: 1})
		}
		c.Finals = append(c.Finals, ends(n, "", ""))
		return c
	}
	wantErrors(t, "1024 places", more(1), 1024, api.OK, api.OK, api.OK)
	if n, e := look.Count(more(1)); n != 1024 || e != api.OK {
		t.Errorf("Count: %d, %d", n, e)
	}
	wantErrors(t, "1024 places, and a small budget", more(1), 1023, api.OK, api.OK, api.ErrBudget)
	wantErrors(t, "1025 places", more(2), 0, api.OK, api.ErrLong, api.ErrLong)
	wantErrors(t, "very many places", codec.Strict(), 0, api.OK, api.ErrLong, api.ErrLong)
	wantErrors(t, "very many places of a repairer", codec.Repairer(), 0, api.OK, api.ErrLong, api.ErrLong)
	states := from(api.MaxStates, nil, ends(api.MaxStates-1, "", ""))
	for q := range api.MaxStates - 1 {
		states.Rules = append(states.Rules, eats(q, q+1, "a", 1, ""))
	}
	wantErrors(t, "1024 states", states, 1024, api.OK, api.OK, api.OK)
	states.Finals = append(states.Finals, ends(api.MaxStates-1, "a", ""))
	wantErrors(t, "1024 states, and what the last one holds", states, 1024, api.OK, api.ErrLong, api.ErrLong)
	states.Rules = states.Rules[1:]
	if n, e := look.Count(states); n != 1 || e != api.OK {
		t.Errorf("states to which no steps lead: %d, %d", n, e)
	}
}

// P13.3: how many rules and finals there may be.
func TestRulesLimits(t *testing.T) {
	all := func(n int) []api.Rule {
		return slices.Repeat([]api.Rule{{Guards: window(set(0, 255)), Eat: 1}}, n)
	}
	wantErrors(t, "4096 rules", from(1, all(4096), ends(0, "", "")), 1, api.OK, api.OK, api.OK)
	wantErrors(t, "4096 rules, and two steps that write nothing", from(1, all(4096), api.Final{Guards: window(set(0, 255))}), 2, api.OK, api.OK, api.ErrLong)
	wantErrors(t, "2047 rules of two places", from(1, all(2047), api.Final{Guards: window(set(0, 255))}), 2, api.OK, api.OK, api.OK)
	wantErrors(t, "2048 rules of two blocks", from(1, append(all(2047), eats(0, 0, "a", 1, ""))), 1, api.OK, api.OK, api.OK)
	wantErrors(t, "2049 rules of two blocks", from(1, append(all(2048), eats(0, 0, "a", 1, ""))), 1, api.OK, api.OK, api.ErrLong)
	wantErrors(t, "more rules than may be, and a small budget", from(1, append(all(2048), eats(0, 0, "a", 1, ""))), 0, api.OK, api.OK, api.ErrBudget)
	finals := func(n int) []api.Final { return slices.Repeat([]api.Final{{Guards: window(set(0, 255))}}, n) }
	wantErrors(t, "4096 finals", from(1, nil, finals(4096)...), 2, api.OK, api.OK, api.OK)
	wantErrors(t, "2048 finals of two blocks", from(1, nil, append(finals(2047), ends(0, "a", ""), ends(0, "a", ""))...), 3, api.OK, api.OK, api.OK)
	wantErrors(t, "2049 finals of two blocks", from(1, nil, append(finals(2048), ends(0, "a", ""))...), 3, api.OK, api.OK, api.ErrLong)
	wantModel(t, from(1, nil, append(finals(2047), ends(0, "a", "x"), ends(0, "a", "y"))...))
}

// P13.3: how much may be written in one step.
func TestLongOut(t *testing.T) {
	x := func(n int) string { return strings.Repeat("x", n) }
	for _, n := range []int{0, 1} {
		want := api.OK
		if n == 1 {
			want = api.ErrLong
		}
		one := from(3, []api.Rule{eats(0, 1, "ab", 1, x(40)), eats(1, 0, "b", 1, x(24+n))}, ends(0, "", ""))
		wantErrors(t, "two rules", one, 9, api.OK, api.OK, want)
		wantErrors(t, "two rules, and a small budget", one, 1, api.OK, api.OK, api.ErrBudget)
		wantErrors(t, "four rules", from(1, []api.Rule{eats(0, 0, "abcd", 1, x(16)), eats(0, 0, "b", 1, x(16)), eats(0, 0, "c", 1, x(16+n)), eats(0, 0, "d", 1, x(16))}, ends(0, "", "")), 9, api.OK, api.OK, want)
		wantModel(t, one)
		// What leads to places that don't go on is no step.
		one.Rules = append(one.Rules, eats(1, 2, "b", 1, x(64)), eats(0, 2, "a", 1, x(64)))
		wantErrors(t, "no steps", one, 9, api.OK, api.OK, want)
		wantModel(t, one)
		wantErrors(t, "one rule, and a final", from(1, []api.Rule{eats(0, 0, "a", 1, x(64))}, ends(0, "", x(63+n))), 9, api.OK, api.OK, api.OK)
	}
}

// Every call ends: there may be very many ways, all to the same places, or to none.
func TestVeryManyWays(t *testing.T) {
	all := set(0, 255)
	var rules []api.Rule
	for i := range 1000 {
		for n := 1; n <= 4; n++ {
			rules = append(rules, api.Rule{To: i % 2 * n, Guards: slices.Repeat(window(all), n), Eat: 1, Out: consts("x")})
		}
	}
	for i := range rules {
		rules[i].From = i % 3
	}
	d := from(5, rules)
	wantErrors(t, "ways to nowhere", from(5, rules, ends(4, "abcd", "")), 1024, api.OK, api.OK, api.ErrLong)
	wantErrors(t, "ways to everywhere", from(5, rules, ends(0, "", "")), 1024, api.OK, api.OK, api.ErrLong)
	d.Rules = slices.DeleteFunc(slices.Clone(rules), func(r api.Rule) bool { return len(r.Guards) == 4 && r.To == 0 })
	wantErrors(t, "ways back", d, 1024, api.OK, api.OK, api.ErrLong)
	// Ways of four rules to a state that doesn't go on, a thousand ways each, and one that does.
	rules = nil
	for q := range 4 {
		for i := range 1000 {
			rules = append(rules, api.Rule{From: q, To: 1 + q + (3-q)*(i%2), Guards: slices.Repeat(window(all), 4-q), Eat: 1})
		}
	}
	last := api.Rule{To: 5, Guards: window(all, all, all, all), Eat: 4, Out: consts("y")}
	d = from(6, append(rules, last), ends(5, "", ""))
	c, e := look.Eliminate(d, 5)
	if e != api.OK || c.States != 5 || len(c.Rules) != 4 || len(c.Finals) != 1 {
		t.Errorf("one way: %v, %d", c, e)
	}
	wantSame(t, d, c, []rune("a"), 5)
	// Of very many places and blocks nearly all rules may be taken with nearly all.
	d = scalars(nil, api.Final{})
	but := func(i int) []api.Span { return span.Minus(set(0, 1022), set(i%1023, i%1023)) }
	for i := range api.MaxRules {
		d.Rules = append(d.Rules, api.Rule{Guards: window(but(i), but(i*7+3)), Eat: 2})
	}
	wantErrors(t, "many places, blocks and rules", d, 1023, api.OK, api.OK, api.ErrBudget)
	wantErrors(t, "many places, blocks and rules", d, 1024, api.OK, api.OK, api.ErrLong)
	if n, e := look.Count(d); n != 1024 || e != api.OK {
		t.Errorf("many places, blocks and rules: %d, %d", n, e)
	}
}

// try is a source of numbers for descriptions.
type try struct{ *rand.Rand }

// guard is a set of a sort's symbols.
func (r try) guard(s api.Sort) []api.Span {
	sets := [][]api.Span{set('a', 'a'), set('b', 'b'), set('a', 'b'), set('a', 'd'), set('b', 'b', 'd', 'd'), set('c', 'c', 0xf8, 0xff), not(s, set('a', 'a')), not(s, nil)}
	if s == api.Scalars {
		sets = append(sets, set(0xd7ff, 0xd7ff, 0xe000, 0xe000), set(0x10ff00, api.MaxRune))
	}
	return slices.Clone(sets[r.Intn(len(sets))])
}

// term is a term of windows of n symbols.
func (r try) term(d api.Desc, n int) api.Term {
	if n == 0 || r.Intn(3) == 0 {
		return term.Const(rune('p' + r.Intn(5)))
	}
	if d.In == api.Scalars || r.Intn(2) == 0 {
		return term.Copy(r.Intn(n), r.Intn(3)-1)
	}
	x := api.Term{Take: 21}
	if d.Out == api.Bytes {
		x.Drop, x.Take = r.Intn(2), 8
	}
	for up := 0; up < 5; up += 1 + r.Intn(3) {
		x.Parts = append(x.Parts, api.Part{At: r.Intn(n), Drop: r.Intn(7), Take: 1 + r.Intn(3), Up: up})
	}
	x.Parts = x.Parts[:min(len(x.Parts), 4)]
	return x
}

// window is guards and terms.
func (r try) window(d api.Desc, least int) ([][]api.Span, []api.Term) {
	var guards [][]api.Span
	var terms []api.Term
	for range max(least, r.Intn(r.Intn(5)+1)) {
		guards = append(guards, r.guard(d.In))
	}
	for range r.Intn(3) {
		terms = append(terms, r.term(d, len(guards)))
	}
	return guards, terms
}

// desc is a description without epsilon rules.
func (r try) desc() api.Desc {
	for {
		sorts := [][2]api.Sort{{api.Bytes, api.Bytes}, {api.Bytes, api.Scalars}, {api.Scalars, api.Scalars}, {api.Scalars, api.Bytes}}[r.Intn(4)]
		d := api.Desc{In: sorts[0], Out: sorts[1], States: 1 + r.Intn(3)}
		d.Start = r.Intn(d.States)
		for range r.Intn(6) {
			x := api.Rule{From: r.Intn(d.States), To: r.Intn(d.States)}
			x.Guards, x.Out = r.window(d, 1)
			x.Eat = 1 + r.Intn(len(x.Guards))
			d.Rules = append(d.Rules, x)
		}
		for range r.Intn(4) {
			x := api.Final{From: r.Intn(d.States)}
			x.Guards, x.Out = r.window(d, 0)
			d.Finals = append(d.Finals, x)
		}
		if desc.Check(d) == api.OK {
			return d
		}
	}
}

// P13.1, P13.2, P13.3, P13.4: descriptions of all kinds.
func TestMany(t *testing.T) {
	r := try{rand.New(rand.NewSource(13))}
	made, wide := 0, 0
	for i := range 5000 {
		d := r.desc()
		// A few descriptions of very many blocks are enough: the model is slow.
		if l, _ := blocks(d); len(l) > 40 && i%300 > 0 {
			continue
		}
		c, ok := wantModel(t, d)
		if !ok {
			continue
		}
		made++
		if desc.Ahead(d) > 1 && c.States > 5 {
			wide++
		}
		if i%20 > 0 {
			continue
		}
		symbols := []rune{'a', 'b', 'd', 0xfb}
		if d.In == api.Scalars {
			symbols = []rune{'a', 'b', 0xd7ff, 0xe000}
		}
		wantSame(t, d, c, symbols, 3)
		for range 30 {
			var w []rune
			for range 4 + r.Intn(5) {
				w = append(w, symbols[r.Intn(len(symbols))])
			}
			wantSameOf(t, d, c, w)
		}
	}
	if made < 3000 || wide < 200 {
		t.Errorf("few descriptions: %d, %d", made, wide)
	}
}

// P13.4: decoders of a part of UTF-8.
func TestDecoder(t *testing.T) {
	d := codec.Repairer()
	narrow := func(g [][]api.Span) bool { return len(g) > 0 && g[0][0].Lo >= 0xe0 && g[0][0].Hi <= 0xf4 }
	d.Rules = slices.DeleteFunc(d.Rules, func(r api.Rule) bool { return narrow(r.Guards) })
	d.Finals = slices.DeleteFunc(d.Finals, func(f api.Final) bool { return narrow(f.Guards) })
	n, e := look.Count(d)
	if n != 31 || e != api.OK {
		t.Fatalf("Count: %d, %d", n, e)
	}
	c, e := look.Eliminate(d, n)
	if e != api.OK || desc.Check(c) != api.OK || !simple(c) {
		t.Fatalf("Eliminate: %d", e)
	}
	wantSame(t, d, c, []rune{'a', 0x80, 0xbf, 0xc0, 0xc2, 0xdf, 0xe0, 0xff}, 3)
	r := rand.New(rand.NewSource(1))
	for range 200 {
		w := make([]rune, r.Intn(20))
		for i := range w {
			w[i] = rune([]int{'x', 0x80 + r.Intn(64), 0xc2 + r.Intn(30), r.Intn(256)}[r.Intn(4)])
		}
		wantSameOf(t, d, c, w)
	}
}

// roomy is a list with room behind it, in which something stands.
func roomy[T any](l []T, behind T) []T {
	return append(slices.Clip(slices.Clone(l)), behind, behind)[:len(l)]
}

// roomyDesc is a description with room behind all of its lists.
func roomyDesc() api.Desc {
	any := set('a', 'a', 'c', 'c')
	d := from(2, []api.Rule{
		{Guards: window(any, any, any), Eat: 1, Out: []api.Term{term.Copy(0, 0), term.Copy(2, 0)}},
		{Guards: window(any), Eat: 1, Out: []api.Term{term.Const('x'), term.Copy(0, 1)}},
		eats(0, 1, "b", 1, "y"),
	}, api.Final{Guards: window(any), Out: []api.Term{term.Copy(0, 0)}}, ends(1, "", "zz"), ends(0, "", "z"))
	guards := func(l [][]api.Span) [][]api.Span {
		for i := range l {
			l[i] = roomy(l[i], api.Span{Lo: 66})
		}
		return roomy(l, []api.Span{{Lo: 67}})
	}
	terms := func(l []api.Term) []api.Term {
		for i := range l {
			l[i].Parts = roomy(l[i].Parts, api.Part{At: 66})
		}
		return roomy(l, api.Term{Sum: 66})
	}
	for i, r := range d.Rules {
		d.Rules[i].Guards, d.Rules[i].Out = guards(r.Guards), terms(r.Out)
	}
	for i, f := range d.Finals {
		d.Finals[i].Guards, d.Finals[i].Out = guards(f.Guards), terms(f.Out)
	}
	d.Rules, d.Finals = roomy(d.Rules, api.Rule{From: 66}), roomy(d.Finals, api.Final{From: 66})
	return d
}

// whole is a description as a text, with all that lies in its lists' room.
func whole(d api.Desc) string {
	out := text(d)
	wide := func(g [][]api.Span, l []api.Term) {
		for _, s := range g[:cap(g)] {
			out += fmt.Sprint(s[:cap(s)])
		}
		for _, x := range l[:cap(l)] {
			out += fmt.Sprint(x, x.Parts[:cap(x.Parts)])
		}
	}
	for _, r := range d.Rules[:cap(d.Rules)] {
		out += fmt.Sprint(r)
		wide(r.Guards, r.Out)
	}
	for _, f := range d.Finals[:cap(d.Finals)] {
		out += fmt.Sprint(f)
		wide(f.Guards, f.Out)
	}
	return out
}

// scrawl writes into lists of spans and terms, and what they hold, their lists' room too.
func scrawl(g [][]api.Span, l []api.Term) {
	for _, s := range g {
		for i := range s[:cap(s)] {
			s[:cap(s)][i].Lo = -7
		}
	}
	for _, x := range l {
		for i := range x.Parts[:cap(x.Parts)] {
			x.Parts[:cap(x.Parts)][i].Up = -7
		}
	}
	for i := range g[:cap(g)] {
		g[:cap(g)][i] = nil
	}
	for i := range l[:cap(l)] {
		l[:cap(l)][i] = api.Term{Base: -7}
	}
}

// Rule 4: what is handed in isn't changed, its spare room neither; what is answered is new memory, of which no two lists share any.
func TestMemory(t *testing.T) {
	d := roomyDesc()
	before := whole(d)
	got, ok := wantModel(t, d)
	want := text(got)
	if !ok || len(got.Rules) < 20 || len(got.Finals) < 3 {
		t.Fatalf("Eliminate: %v", got)
	}
	for i := range got.Rules {
		scrawl(got.Rules[i].Guards, got.Rules[i].Out)
		got.Rules[i] = api.Rule{}
		again, _ := look.Eliminate(d, 1024)
		if fmt.Sprint(got.Rules[i+1:], got.Finals) != fmt.Sprint(again.Rules[i+1:], again.Finals) {
			t.Errorf("what was answered shares memory within, or with what was handed in: rule %d", i)
		}
	}
	for i := range got.Finals {
		scrawl(got.Finals[i].Guards, got.Finals[i].Out)
		got.Finals[i] = api.Final{}
		again, _ := look.Eliminate(d, 1024)
		if fmt.Sprint(got.Finals[i+1:]) != fmt.Sprint(again.Finals[i+1:]) {
			t.Errorf("what was answered shares memory within, or with what was handed in: final %d", i)
		}
	}
	blocks, _ := look.Blocks(d)
	for i := range blocks {
		scrawl(blocks[i:i+1:i+1], nil)
		if again, _ := look.Blocks(d); fmt.Sprint(blocks[i+1:]) != fmt.Sprint(again[i+1:]) {
			t.Errorf("blocks share memory within, or with what was handed in: %d", i)
		}
	}
	if whole(d) != before {
		t.Error("what was handed in is changed")
	}
	if again, _ := look.Eliminate(d, 1024); text(again) != want {
		t.Errorf("Eliminate once more: %v", again)
	}
}
