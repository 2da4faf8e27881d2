package chain_test

import (
	"fmt"
	"math"
	"slices"
	"strings"
	"testing"

	"umlaut/api"
	"umlaut/chain"
	"umlaut/codec"
	"umlaut/desc"
	"umlaut/look"
	"umlaut/span"
	"umlaut/term"
	"umlaut/word"
)

// wantError asks for an error and nothing else.
func wantError(t *testing.T, what string, a, b api.Desc, n int, want api.Errno) {
	t.Helper()
	if d, e := chain.Chain(a, b, n); e != want || text(d) != text(api.Desc{}) {
		t.Errorf("%s: %d, not %d; %d rules, %d finals", what, e, want, len(d.Rules), len(d.Finals))
	}
}

// amp is the chapter's example.
func amp() (api.Desc, api.Desc) {
	return scalars([]api.Rule{eats(0, 0, "a", "&")}, ends(0, "")), scalars([]api.Rule{eats(0, 0, "&", "&amp;")}, ends(0, ""))
}

// P14.2: the chapter's example.
func TestExample(t *testing.T) {
	a, b := amp()
	got, _ := wantChain(t, a, b, words([]rune("a&b"), 3))
	for _, x := range []struct{ in, out string }{{"a", "[&amp;]"}, {"aa", "[&amp;&amp;]"}, {"", "[]"}} {
		if l := outputs(t, got, word.Of(x.in)); len(l) != 1 || "["+string(l[0])+"]" != x.out {
			t.Errorf("of %q: %x", x.in, l)
		}
	}
	if l := outputs(t, got, word.Of("&")); len(l) > 0 {
		t.Errorf("of &: %x", l)
	}
}

// P14.1, of any description.
func TestOne(t *testing.T) {
	one := api.Rule{Guards: window(nil)}
	for _, d := range []api.Desc{{}, {Rules: []api.Rule{one}}, {Rules: []api.Rule{one, {From: -1, To: 77, Guards: window(set(5, 4)), Eat: 9}}, Finals: []api.Final{{}, {From: 8}}}, desc.Same(api.Bytes), codec.Encoder(), desc.Empty(api.Bytes, api.Bytes), {Finals: []api.Final{{Guards: window()}}}} {
		if !chain.One(d) {
			t.Errorf("%v doesn't read one symbol at a time", d)
		}
	}
	two := api.Rule{Guards: window(set(1, 1), set(1, 1)), Eat: 1}
	for _, d := range []api.Desc{{Rules: []api.Rule{{}}}, {Rules: []api.Rule{one, {Guards: window()}}}, {Rules: []api.Rule{one, two}}, {Rules: []api.Rule{two, one}}, {Finals: []api.Final{{}, {Guards: window(nil)}}}, {Rules: []api.Rule{one}, Finals: []api.Final{{Guards: window(set(1, 1))}, {}}}, codec.Strict(), codec.Repairer()} {
		if chain.One(d) {
			t.Errorf("%v reads one symbol at a time", d)
		}
	}
}

// P14.2: the errors, and which goes first.
func TestErrors(t *testing.T) {
	a, b := amp()
	bad := func(d api.Desc) api.Desc {
		d.Start = -1
		return d
	}
	epsilon := scalars([]api.Rule{eats(0, 1, "", "x")}, ends(1, ""))
	wide := scalars([]api.Rule{eats(0, 0, "ab", "x")}, ends(0, ""))
	held := scalars([]api.Rule{eats(0, 0, "a", "x")}, api.Final{Guards: each("a")})
	many := func(d api.Desc, n int) api.Desc {
		d.States = n
		return d
	}
	bytes := func(d api.Desc, in, out api.Sort) api.Desc {
		d.In, d.Out = in, out
		return d
	}
	huge := math.MaxInt
	for _, n := range []int{huge, 1, 0, -1, math.MinInt} {
		wantError(t, "a isn't well formed", bad(a), b, n, api.ErrInvalid)
		wantError(t, "b isn't well formed", a, bad(b), n, api.ErrInvalid)
		wantError(t, "neither is anything", api.Desc{}, api.Desc{}, n, api.ErrInvalid)
		wantError(t, "a writes bytes", bytes(a, 2, 1), b, n, api.ErrInvalid)
		wantError(t, "b reads bytes", a, bytes(b, 1, 2), n, api.ErrInvalid)
		wantError(t, "both are of bytes", bytes(a, 1, 1), bytes(b, 1, 1), n, api.ErrInvalid)
		wantError(t, "a has epsilon rules, b isn't well formed", epsilon, bad(b), n, api.ErrInvalid)
		wantError(t, "b reads more, a isn't well formed", bad(many(a, 1024)), many(wide, 1024), n, api.ErrInvalid)
		wantError(t, "a has epsilon rules", epsilon, b, n, api.ErrArg)
		wantError(t, "b has epsilon rules", a, epsilon, n, api.ErrArg)
		wantError(t, "b reads more than one", a, wide, n, api.ErrArg)
		wantError(t, "b ends with a symbol left", a, held, n, api.ErrArg)
		wantError(t, "epsilon rules, and too many states", many(epsilon, 1024), many(b, 1024), n, api.ErrArg)
		wantError(t, "lookahead, and too many states", many(a, 2), many(wide, 513), n, api.ErrArg)
		wantError(t, "too many states", many(a, 1024), many(b, 1024), n, api.ErrLong)
		wantError(t, "one state too many", many(a, 25), many(b, 41), n, api.ErrLong)
	}
	wantError(t, "budget", a, b, 0, api.ErrBudget)
	wantError(t, "budget", many(a, 3), many(b, 5), 14, api.ErrBudget)
	wantError(t, "budget", many(a, 1024), b, 1023, api.ErrBudget)
	wantError(t, "budget", many(a, 32), many(b, 32), math.MinInt, api.ErrBudget)
	wantChain(t, many(a, 3), many(b, 5), words([]rune("a&"), 2))
	wantChain(t, many(a, 32), many(b, 32), words([]rune("a&"), 2))
	wantChain(t, a, many(b, 1024), words([]rune("a&"), 2))
	wantChain(t, wide, b, words([]rune("ab"), 3))
	wantChain(t, held, b, words([]rune("ab"), 3))
	wantChain(t, bytes(a, 1, 2), bytes(b, 2, 1), words([]rune("a&"), 2))
	// What is too great is told behind that the budget is too small.
	long := scalars([]api.Rule{eats(0, 0, "&", strings.Repeat("&", 64))}, ends(0, ""))
	twice := scalars([]api.Rule{eats(0, 0, "&", "xy")}, ends(0, ""))
	wantError(t, "too long, and no budget", long, twice, 0, api.ErrBudget)
	wantError(t, "too long", long, twice, 1, api.ErrLong)
}

// twins is rules of one state that read any of some symbols, and write each another text of eight.
func twins(symbols []api.Span, n int) []api.Rule {
	var out []api.Rule
	for i := range n {
		out = append(out, api.Rule{Guards: window(symbols), Eat: 1, Out: consts("pqrstu" + string(rune('0'+i)) + "w")})
	}
	return out
}

// P14.2: the greatest small pairs.
func TestSmallGreat(t *testing.T) {
	four := set('a', 'b', 'd', 'e', 'g', 'h', 'j', 'k')
	any := []api.Term{term.Copy(0, 0), term.Copy(1, 0)}
	var a api.Desc
	for i := range 8 {
		g := window(span.Norm(set('a'+i, 'a'+i, 'e', 'f', 'j', 'k')), four)
		a = scalars(append(a.Rules, api.Rule{Guards: g, Eat: 1 + i%2, Out: any}), append(a.Finals, api.Final{Guards: window(span.Norm(set('a'+i, 'a'+i, 'k', 'k')), four), Out: any})...)
	}
	b := scalars(twins(set(0, 'h', 'k', 0xd7ff), 8))
	for i := range 8 {
		b.Finals = append(b.Finals, ends(0, "endingg"+string(rune('0'+i))))
	}
	if !small(a, b) {
		t.Fatal("no small pair")
	}
	got, e := chain.Chain(a, b, 1)
	if e != api.OK || len(got.Finals) > 4096 {
		t.Fatalf("Chain: %d", e)
	}
	wantHead(t, a, b, got)
	for _, w := range []string{"ae", "kb", "jk", "jj", "aje", "i"} {
		if x := word.Of(w); fmt.Sprint(outputs(t, got, x)) != fmt.Sprint(both(t, a, b, x)) {
			t.Errorf("of %s: %d outputs, not %d", w, len(outputs(t, got, x)), len(both(t, a, b, x)))
		}
	}
	// As many finals as may be, each of them another one.
	b.Rules = twins(word.Domain(api.Scalars), 8)
	for i := range a.Finals {
		a.Finals[i] = api.Final{Guards: window(set('a'+i, 'a'+i)), Out: consts("z" + string(rune('a'+i)))}
		b.Rules[i].Out[7] = term.Copy(0, 0)
	}
	if got, e = chain.Chain(a, b, 1); e != api.OK || len(got.Finals) != 4096 || !small(a, b) {
		t.Fatalf("Chain: %d, %d finals", e, len(got.Finals))
	}
	if n := len(outputs(t, got, word.Of("a"))); n != 512 {
		t.Errorf("of a: %d outputs", n)
	}
	// One more may be too many.
	b.Finals = append(b.Finals, ends(0, "more"))
	if small(a, b) {
		t.Error("a small pair")
	}
	wantError(t, "more than 4096 finals", a, b, 1, api.ErrLong)
}

// P14.2: as many rules as may be, and as much written; and more.
func TestLimits(t *testing.T) {
	var a, b api.Desc
	for i := range api.MaxRules {
		a = scalars(append(a.Rules, api.Rule{Guards: window(set(i, i)), Eat: 1, Out: consts(string(rune(4*i%4096 + i/1024)))}), ends(0, ""))
		b = scalars(append(b.Rules, api.Rule{Guards: window(set(i, i)), Eat: 1, Out: []api.Term{term.Const(rune(0x5000 + i))}}), ends(0, ""))
	}
	got, _ := wantChain(t, a, b, [][]rune{{0}, {1}, {1023}, {1024}, {4095}, {4096}, {77, 4000}})
	if len(got.Rules) != api.MaxRules {
		t.Errorf("%d rules", len(got.Rules))
	}
	more := b
	more.Rules = slices.Clone(b.Rules)
	more.Rules[5] = api.Rule{Guards: window(set(5, 6)), Eat: 1, Out: []api.Term{term.Copy(0, 0x7000)}}
	wantError(t, "4097 rules", a, more, 1, api.ErrLong)
	a.Rules, a.Finals = nil, nil
	for i := range api.MaxRules {
		a.Finals = append(a.Finals, api.Final{Guards: window(set(i, i)), Out: []api.Term{term.Const(rune(i))}})
	}
	if got, _ = wantChain(t, a, b, [][]rune{{0}, {1}, {4095}, {4096}, {77, 4000}}); len(got.Finals) != api.MaxRules {
		t.Errorf("%d finals", len(got.Finals))
	}
	wantError(t, "4097 finals", a, more, 1, api.ErrLong)

	long := scalars([]api.Rule{eats(0, 0, "a", strings.Repeat("&", 32))}, ends(0, strings.Repeat("&", 31)))
	twice := scalars([]api.Rule{eats(0, 0, "&", "xy")}, ends(0, "zz"))
	wantChain(t, long, twice, words([]rune("a"), 3))
	longer := scalars([]api.Rule{eats(0, 0, "a", strings.Repeat("&", 32))}, ends(0, strings.Repeat("&", 32)))
	wantError(t, "a final that writes 66", longer, twice, 1, api.ErrLong)
	longer = scalars([]api.Rule{eats(0, 0, "a", strings.Repeat("&", 13))}, ends(0, ""))
	wantError(t, "a rule that writes 65", longer, scalars([]api.Rule{eats(0, 0, "&", "vwxyz")}, ends(0, "")), 1, api.ErrLong)
	longer = scalars([]api.Rule{eats(0, 0, "a", strings.Repeat("&", 33))}, ends(0, ""))
	wantError(t, "a rule that writes 66", longer, twice, 1, api.ErrLong)
	// What is never come to, or never ends, doesn't count.
	longer.Rules[0].Out[40-8] = term.Const('a')
	wantChain(t, longer, twice, words([]rune("a"), 2))
	nothing := scalars([]api.Rule{eats(0, 0, "&", "")}, ends(0, ""))
	wantChain(t, scalars([]api.Rule{eats(0, 0, "a", strings.Repeat("&", 64))}, ends(0, "")), nothing, words([]rune("a"), 3))
}

// P14.2: rules of states to which none leads are none too many.
func TestNotComeTo(t *testing.T) {
	a := scalars([]api.Rule{eats(0, 0, "a", "b")}, ends(0, ""), ends(1, ""))
	for i := range api.MaxRules - 1 {
		a.Rules = append(a.Rules, api.Rule{From: 1, To: 1, Guards: window(set(i, i)), Eat: 1, Out: []api.Term{term.Const(rune(i))}})
	}
	b := scalars([]api.Rule{{Guards: window(set(0, 0x9fff)), Eat: 1, Out: []api.Term{term.Copy(0, 0)}}, {Guards: window(set(0, 0x9fff)), Eat: 1, Out: []api.Term{term.Copy(0, 1)}}}, ends(0, ""))
	wantChain(t, a, b, words([]rune("ab"), 3))
	// Nor are those that are the same.
	for i := range a.Rules {
		a.Rules[i] = eats(0, 0, "a", "b")
	}
	if got, _ := wantChain(t, a, b, words([]rune("ab"), 3)); len(got.Rules) > 2 {
		t.Errorf("%d rules", len(got.Rules))
	}
	// What two windows differ in at one place alone can be said by one rule.
	a = scalars([]api.Rule{eats(0, 0, "aa", ""), eats(0, 0, "bb", ""), eats(0, 0, "ab", ""), eats(0, 0, "ba", ""), eats(0, 0, "a", "")}, ends(0, ""))
	if got, _ := wantChain(t, a, b, words([]rune("ab"), 4)); len(got.Rules) > 2 {
		t.Errorf("%d rules", len(got.Rules))
	}
}

// P14.2: where very many boxes would be needed, either all of them are there, or it is too great.
func TestManyBoxes(t *testing.T) {
	any := set(0, 255)
	sum := api.Term{Take: 21, Parts: []api.Part{{At: 0, Take: 8}, {At: 1, Take: 6, Up: 1}, {At: 2, Take: 6, Up: 2}, {At: 3, Take: 6, Up: 3}}}
	a := api.Desc{In: api.Bytes, Out: api.Scalars, States: 1, Rules: []api.Rule{{Guards: window(any, any, any, any), Eat: 4, Out: []api.Term{sum}}}, Finals: []api.Final{{}}}
	b := scalars([]api.Rule{{Guards: window(set(300, 301)), Eat: 1, Out: consts("x")}}, ends(0, ""))
	if _, e := chain.Chain(a, b, 1); e != api.ErrLong {
		wantChain(t, a, b, [][]rune{{0, 0, 0, 0}, {100, 20, 0, 20}, {101, 20, 0, 20}, {102, 20, 0, 20}})
	}
}

// P14.2: guards that have more spans than a guard may have.
func TestManySpans(t *testing.T) {
	var rules []api.Rule
	for i := range 40 {
		var g []api.Span
		for j := range 40 {
			g = append(g, api.Span{Lo: 400*j + 10*i, Hi: 400*j + 10*i + 4})
		}
		rules = append(rules, api.Rule{Guards: window(g), Eat: 1, Out: []api.Term{term.Copy(0, 2)}})
	}
	b := scalars(rules, ends(0, ""))
	a := scalars([]api.Rule{{Guards: window(set(0, 5000, 6000, 0xd7f0), set(0, 0xd7f0)), Eat: 2, Out: []api.Term{term.Copy(1, 1), term.Copy(0, 3)}}}, ends(0, ""))
	var inputs [][]rune
	for x := range rune(20) {
		inputs = append(inputs, []rune{x, 7 * x}, []rune{4990 + x, 15980 + 3*x}, []rune{24*x + 77, 5})
	}
	if _, n := wantChain(t, a, b, inputs); n == 0 {
		t.Error("nothing is related to anything")
	}
}

// P14.2: of sums that are too low for one term.
func TestTooLow(t *testing.T) {
	three := api.Term{Take: 21, Sum: -api.MaxRune, Parts: []api.Part{{At: 0, Take: 6, Up: 13}, {At: 1, Take: 6, Up: 14}, {At: 2, Take: 6, Up: 15}}}
	a := api.Desc{In: api.Bytes, Out: api.Scalars, States: 1, Rules: []api.Rule{{Guards: window(set(30, 40), set(30, 40), set(28, 36)), Eat: 3, Out: []api.Term{three}}}, Finals: []api.Final{{}}}
	moved := func(from int) api.Desc {
		u := api.Term{Drop: 13, Take: 8, Sum: -from, Parts: []api.Part{{Take: 21}}}
		return api.Desc{In: api.Scalars, Out: api.Bytes, States: 1, Rules: []api.Rule{{Guards: window(set(from, api.MaxRune)), Eat: 1, Out: []api.Term{u, term.Const('x'), u}}}, Finals: []api.Final{{}}}
	}
	var inputs [][]rune
	for x := rune(29); x <= 41; x++ {
		for _, y := range []rune{29, 30, 34, 39, 40, 41} {
			for z := rune(27); z <= 37; z++ {
				inputs = append(inputs, []rune{x, y, z})
			}
		}
	}
	for _, from := range []int{0xe000, 500000, 600000, 900000, 1040000} {
		got, n := wantChain(t, a, moved(from), inputs)
		if n == 0 {
			t.Errorf("from %d: nothing is related to anything", from)
		}
		// Here all windows are read, and it is enough to know one bit.
		if from == 500000 && len(got.Rules) > 2 {
			t.Errorf("%d rules", len(got.Rules))
		}
	}
	// One byte alone, of which even the bit that isn't told can be counted.
	one := api.Term{Take: 21, Sum: -api.MaxRune, Parts: []api.Part{{Drop: 1, Take: 6, Up: 15}}}
	a.Rules = []api.Rule{{Guards: window(set(68, 127)), Eat: 1, Out: []api.Term{one, term.Copy(0, 0)}}}
	b := moved(900000)
	b.Rules = append(b.Rules, api.Rule{Guards: window(set(0, 255)), Eat: 1, Out: []api.Term{term.Copy(0, 0)}})
	inputs = nil
	for x := range rune(256) {
		inputs = append(inputs, []rune{x})
	}
	if _, n := wantChain(t, a, b, inputs); n != 6 {
		t.Errorf("%d are related to something", n)
	}
}

// P14.2: very many ways that come to the same, or to nothing, are not too many.
func TestVeryManyWays(t *testing.T) {
	x := func(from, to int, symbols []api.Span, write string) api.Rule {
		return api.Rule{From: from, To: to, Guards: window(symbols), Eat: 1, Out: consts(write)}
	}
	a := scalars([]api.Rule{eats(0, 0, "a", strings.Repeat("x", 64)), eats(0, 0, "b", "xy")}, ends(0, ""))
	same := scalars([]api.Rule{x(0, 0, set('x', 'x'), ""), x(0, 1, set('x', 'x'), ""), x(1, 0, set('a', 'z'), ""), x(1, 1, set('x', 'z'), "")}, ends(0, "y"))
	wantChain(t, a, same, words([]rune("ab"), 2))
	// 2 to the power 64 ways to write, and no end.
	wantChain(t, scalars(nil, ends(0, strings.Repeat("x", 64))), scalars([]api.Rule{x(0, 1, set('a', 'z'), "p"), x(1, 1, set('x', 'x'), "q"), x(1, 1, set('x', 'x'), "r")}, ends(0, "")), [][]rune{nil})
	// 2 to the power 63 ways to write, and nobody reads what comes last.
	dead := scalars([]api.Rule{x(0, 0, set('x', 'x'), "p"), x(0, 0, set('x', 'x'), "q")}, ends(0, ""))
	a.Rules[0].Out[63] = term.Const('z')
	wantChain(t, a, dead, words([]rune("ab"), 1))
	// The same, where it hangs on the window alone.
	for i := range a.Rules[0].Out {
		a.Rules[0].Out[i] = term.Copy(0, 0)
	}
	a.Rules[0].Guards = window(set('a', 'z'))
	var rules []api.Rule
	for i := range 63 {
		rules = append(rules, x(i, i+1, set('a', 'm'), "p"), x(i, i+1, set('a', 'm', 'o', 'o'), "q"))
	}
	last := scalars(append(rules, x(63, 64, set('n', 'z'), "r")), ends(64, ""))
	got, e := chain.Chain(a, last, 65)
	if e != api.OK {
		t.Fatalf("Chain: %d", e)
	}
	if l := outputs(t, got, word.Of("o")); len(l) != 1 || string(l[0]) != strings.Repeat("q", 63)+"r" {
		t.Errorf("of o: %x", l)
	}
	if l := outputs(t, got, word.Of("m")); len(l) > 0 {
		t.Errorf("of m: %x", l)
	}
}

// P14.3: what writes what it reads changes nothing.
func TestSame(t *testing.T) {
	r := try{newRand(3)}
	same := desc.Same(api.Scalars)
	for range 100 {
		a, b := r.first(false), r.second()
		inputs := r.inputs(a.In)
		if few(a, same, inputs) {
			if got, _ := wantChain(t, a, same, nil); !alike(t, got, a, inputs) {
				t.Errorf("ahead of Same: %s", brief(a, got))
			}
		}
		inputs = r.inputs(b.In)
		if few(same, b, inputs) {
			if got, _ := wantChain(t, same, b, nil); !alike(t, got, b, inputs) {
				t.Errorf("behind Same: %s", brief(b, got))
			}
		}
	}
}

// alike tells whether two relate inputs to the same.
func alike(t *testing.T, a, b api.Desc, inputs [][]rune) bool {
	t.Helper()
	return !slices.ContainsFunc(inputs, func(x []rune) bool {
		return fmt.Sprint(outputs(t, a, x)) != fmt.Sprint(outputs(t, b, x))
	})
}

// P14.3: of three, in whichever order they are put together, the same comes.
func TestThree(t *testing.T) {
	r := try{newRand(4)}
	done := 0
	for range 400 {
		a, b, c := r.first(false), r.second(), r.second()
		inputs := r.inputs(a.In)
		if b.Out != api.Scalars || !few(a, b, inputs) {
			continue
		}
		ab, _ := wantChain(t, a, b, nil)
		bc, _ := wantChain(t, b, c, nil)
		if !few(ab, c, inputs) || !few(a, bc, inputs) {
			continue
		}
		early, _ := wantChain(t, ab, c, inputs)
		late, _ := wantChain(t, a, bc, inputs)
		if !alike(t, early, late, inputs) {
			t.Errorf("of three: %s", brief(a, b, c, early, late))
		}
		done++
	}
	if done < 100 {
		t.Errorf("few descriptions: %d", done)
	}
}

// P14.2: decoders and an encoder, with what changes texts between them.
func TestCodecs(t *testing.T) {
	upper := scalars([]api.Rule{{Guards: window(set('a', 'z')), Eat: 1, Out: []api.Term{term.Copy(0, -32)}}, {Guards: window(span.Minus(word.Domain(api.Scalars), set('a', 'z'))), Eat: 1, Out: []api.Term{term.Copy(0, 0), term.Copy(0, 0)}}}, ends(0, "€"))
	for _, a := range []api.Desc{codec.Strict(), codec.Repairer()} {
		ab, _ := wantChain(t, a, upper, nil)
		abc, _ := wantChain(t, ab, codec.Encoder(), nil)
		for _, s := range []string{"", "abc", "grün", "€uro 𝄞", "\xc3", "\xe2\x82x", "\xf0\x9f\x98", "a\xffb", "\xed\xa0\x80"} {
			x := word.Raw([]byte(s))
			want := both(t, a, upper, x)
			if l := outputs(t, ab, x); fmt.Sprint(l) != fmt.Sprint(want) {
				t.Errorf("of %q: %x, not %x", s, l, want)
			}
			if l := outputs(t, abc, x); fmt.Sprint(l) != fmt.Sprint(both(t, ab, codec.Encoder(), x)) {
				t.Errorf("of %q: %x, not what the encoder makes of %x", s, l, want)
			}
		}
	}
}

// P14.2: what look makes reads one symbol at a time, and may stand behind.
func TestLook(t *testing.T) {
	r := try{newRand(5)}
	for range 60 {
		a, b := r.first(true), r.first(true)
		ready, e := look.Eliminate(b, 40)
		if inputs := r.inputs(a.In); b.In == api.Scalars && e == api.OK && few(a, b, inputs) {
			wantChain(t, a, ready, inputs)
		}
	}
}
