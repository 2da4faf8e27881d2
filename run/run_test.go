package run_test

import (
	"fmt"
	"math"
	"math/rand"
	"slices"
	"strings"
	"testing"

	"umlaut/api"
	"umlaut/desc"
	"umlaut/run"
	"umlaut/term"
	"umlaut/word"
)

// of writes a list by its bounds.
func of(bounds ...int) []api.Span {
	var l []api.Span
	for i := 0; i < len(bounds); i += 2 {
		l = append(l, api.Span{Lo: bounds[i], Hi: bounds[i+1]})
	}
	return l
}

// each is guards of one symbol each.
func each(symbols string) [][]api.Span {
	var l [][]api.Span
	for _, x := range symbols {
		l = append(l, of(int(x), int(x)))
	}
	return l
}

// consts is terms that write a text's symbols.
func consts(symbols string) []api.Term {
	var l []api.Term
	for _, x := range symbols {
		l = append(l, term.Const(x))
	}
	return l
}

// eats is a rule that reads and eats a text, and writes another one.
func eats(from, to int, read, write string) api.Rule {
	return api.Rule{From: from, To: to, Guards: each(read), Eat: len([]rune(read)), Out: consts(write)}
}

// pairs is a description of one state, which may end there, with a rule for each pair of texts.
func pairs(texts ...string) api.Desc {
	d := desc.Empty(api.Bytes, api.Bytes)
	d.Finals = []api.Final{{}}
	for i := 0; i < len(texts); i += 2 {
		d.Rules = append(d.Rules, eats(0, 0, texts[i], texts[i+1]))
	}
	return d
}

// held is the chapter's word: each symbol is in its guard.
func held(guards [][]api.Span, w []rune) bool {
	for i, g := range guards {
		if !slices.ContainsFunc(g, func(s api.Span) bool { return s.Lo <= int(w[i]) && int(w[i]) <= s.Hi }) {
			return false
		}
	}
	return true
}

// written is what terms write of a window.
func written(l []api.Term, w []rune) string {
	var out []rune
	for _, x := range l {
		v, _ := term.Value(x, w)
		out = append(out, rune(v))
	}
	return string(out)
}

// related is all that a description relates an input to, from a state on, by the words of chapter 6.
func related(d api.Desc, q int, x []rune, ahead string, to map[string]int) {
	for _, f := range d.Finals {
		if f.From == q && len(f.Guards) == len(x) && held(f.Guards, x) {
			to[ahead+written(f.Out, x)] = 1
		}
	}
	for _, r := range d.Rules {
		if r.From == q && len(r.Guards) <= len(x) && held(r.Guards, x) {
			related(d, r.To, x[r.Eat:], ahead+written(r.Out, x[:len(r.Guards)]), to)
		}
	}
}

// model is all that a description relates an input to, in the order of words.
func model(d api.Desc, x []rune) []string {
	to := map[string]int{}
	related(d, d.Start, x, "", to)
	var out []string
	for y := range to {
		out = append(out, y)
	}
	// The bytes of scalars' texts are in the order of scalars.
	slices.Sort(out)
	return out
}

// symbols is those of which inputs are made, and beside them one that isn't of the sort's.
var symbols = map[api.Sort][]rune{api.Bytes: {'a', 'b', 255}, api.Scalars: {'a', 'b', 0x1f600}}

// chance makes things by chance, the same ones each time.
type chance struct{ *rand.Rand }

func (r chance) pick(l ...int) int { return l[r.Intn(len(l))] }

func (r chance) guards(s api.Sort, n int) [][]api.Span {
	var l [][]api.Span
	for range n {
		high := int(symbols[s][2])
		l = append(l, [][]api.Span{of('a', 'a'), of('b', 'b'), of('a', 'b'), of(high, high), of('a', 'a', high, high), of('a', high)}[r.Intn(6)])
		if last := l[len(l)-1]; s == api.Scalars && len(last) == 1 && last[0].Hi-last[0].Lo > 0xd800 {
			l[len(l)-1] = of('a', 0xd7ff, 0xe000, high)
		}
	}
	return l
}

func (r chance) terms(n int) []api.Term {
	var l []api.Term
	for range r.pick(0, 0, 1, 1, 2, 3) {
		switch r.Intn(4) {
		case 0, 1:
			l = append(l, term.Const(rune(r.pick('x', 'y'))))
		case 2:
			l = append(l, term.Copy(r.Intn(max(n, 1)), r.pick(0, 0, 1, -1)))
		default:
			l = append(l, api.Term{Base: r.pick(0, 0x40), Take: 21, Sum: r.pick(0, 1), Parts: []api.Part{{At: r.Intn(max(n, 1)), Take: 3}, {At: r.Intn(max(n, 1)), Take: 2, Up: 3}}})
		}
	}
	return l
}

// desc is a well-formed description.
func (r chance) desc() api.Desc {
	for {
		d := desc.Empty(api.Sort(1+r.Intn(2)), api.Sort(1+r.Intn(2)))
		d.States = 1 + r.Intn(4)
		d.Start = r.Intn(d.States)
		for range r.Intn(7) {
			n := r.pick(0, 1, 1, 1, 2, 2, 3, 4)
			d.Rules = append(d.Rules, api.Rule{From: r.Intn(d.States), To: r.Intn(d.States), Guards: r.guards(d.In, n), Eat: min(n, 1+r.Intn(4)), Out: r.terms(n)})
		}
		for range 1 + r.Intn(3) {
			n := r.pick(0, 0, 0, 1, 2, 4)
			d.Finals = append(d.Finals, api.Final{From: r.Intn(d.States), Guards: r.guards(d.In, n), Out: r.terms(n)})
		}
		if desc.Check(d) == api.OK {
			return d
		}
	}
}

func (r chance) word(s api.Sort, n int) []rune {
	var w []rune
	for range n {
		w = append(w, symbols[s][r.Intn(3)])
	}
	return w
}

// texts is words as texts of which nil and empty ones are one.
func texts(l [][]rune) []string {
	var out []string
	for _, w := range l {
		out = append(out, string(w))
	}
	return out
}

// wantOutputs asks all calls of one input, held against all that it is to be related to.
func wantOutputs(t *testing.T, d api.Desc, x []rune, want []string) {
	t.Helper()
	for _, most := range []int{max(1, len(want)), len(want) + 1, math.MaxInt} {
		l, e := run.Outputs(d, x, most)
		if e != api.OK || !slices.Equal(texts(l), want) {
			t.Fatalf("Outputs(%v, %q, %d): %q, %d, not %q", d, string(x), most, texts(l), e, want)
		}
	}
	for _, most := range []int{1, len(want) - 1} {
		if most < 1 || most >= len(want) {
			continue
		}
		if l, e := run.Outputs(d, x, most); e != api.ErrMany || len(l) != 0 {
			t.Fatalf("Outputs(%v, %q, %d): %q, %d, not more of %q", d, string(x), most, texts(l), e, want)
		}
	}
	if ok, e := run.Accepts(d, x); e != api.OK || ok != (len(want) > 0) {
		t.Fatalf("Accepts(%v, %q): %v, %d, not %q", d, string(x), ok, e, want)
	}
	first := ""
	if len(want) > 0 {
		first = want[0]
	}
	if w, ok, e := run.Least(d, x); e != api.OK || ok != (len(want) > 0) || string(w) != first {
		t.Fatalf("Least(%v, %q): %q, %v, %d, not %q", d, string(x), string(w), ok, e, want)
	}
}

func wantRelates(t *testing.T, d api.Desc, x, y []rune, want bool) {
	t.Helper()
	if ok, e := run.Relates(d, x, y); e != api.OK || ok != want {
		t.Fatalf("Relates(%v, %q, %q): %v, %d", d, string(x), string(y), ok, e)
	}
}

// P7.1, by the words of chapter 6: many descriptions and inputs.
func TestModel(t *testing.T) {
	r := chance{rand.New(rand.NewSource(7))}
	some, several := 0, 0
	for range 6000 {
		d := r.desc()
		for range 8 {
			x := r.word(d.In, r.Intn(6))
			want := model(d, x)
			wantOutputs(t, d, x, want)
			for _, y := range want[:min(len(want), 6)] {
				w := []rune(y)
				for _, other := range [][]rune{w, w[:max(0, len(w)-1)], append(slices.Clone(w), 'x'), w[min(1, len(w)):], append([]rune{'y'}, w...)} {
					wantRelates(t, d, x, other, slices.Contains(want, string(other)))
				}
			}
			y := r.word(d.Out, r.Intn(3))
			wantRelates(t, d, x, y, slices.Contains(want, string(y)))
			some += min(1, len(want))
			several += min(1, len(want)/2)
		}
	}
	if some < 5000 || several < 1200 {
		t.Errorf("few inputs are related to something, or to several outputs: %d, %d", some, several)
	}
}

// P7.1: the chapter's example.
func TestExample(t *testing.T) {
	d := pairs("a", "y", "a", "x")
	x := []rune("aa")
	wantOutputs(t, d, x, []string{"xx", "xy", "yx", "yy"})
	if l, e := run.Outputs(d, x, 3); e != api.ErrMany || len(l) != 0 {
		t.Errorf("Outputs: %v, %d", l, e)
	}
	for _, y := range []string{"", "x", "xx", "xz", "yyy", "yx"} {
		wantRelates(t, d, x, []rune(y), y == "xx" || y == "yx")
	}
	for _, y := range [][]rune{{'x', 'x' + 256}, {-1, 'x'}, {'x', math.MinInt32}, {math.MaxInt32, 'y'}, {'x', 0xd800}} {
		wantRelates(t, d, x, y, false)
	}
}

// P7.1: where windows end, and what they see.
func TestWindows(t *testing.T) {
	d := desc.Empty(api.Bytes, api.Bytes)
	d.States = 2
	d.Rules = []api.Rule{
		{Guards: each("abcd"), Eat: 1, Out: []api.Term{term.Copy(3, 0), term.Copy(0, 1)}},
		{Guards: [][]api.Span{of('b', 'd')}, Eat: 1, Out: []api.Term{term.Copy(0, 0)}},
		{To: 1, Guards: each("ab"), Eat: 2, Out: consts("!")},
	}
	d.Finals = []api.Final{{}, {From: 1, Guards: [][]api.Span{of('a', 'z'), of('a', 'z'), of('a', 'z'), of('a', 'z')}, Out: []api.Term{term.Copy(3, 0), term.Copy(0, 0), term.Copy(0, 0)}}}
	for x, want := range map[string][]string{
		"": {""}, "a": nil, "b": {"b"}, "abc": nil, "abcd": {"dbbcd"}, "abcdabcd": {"dbbcddbbcd"}, "abcda": nil,
		"abwxyz": {"!zww"}, "abwxy": nil, "abvwxyz": nil, "babwxyz": {"b!zww"}, "abcdef": {"!fcc"}, "abcdd": {"dbbcdd"}, "abcddd": {"!dcc", "dbbcddd"},
	} {
		wantOutputs(t, d, []rune(x), want)
	}
}

// P7.1: ways over epsilon rules, at the beginning, within and at the end, with an empty output too.
func TestEpsilonWays(t *testing.T) {
	d := desc.Empty(api.Scalars, api.Scalars)
	d.States, d.Start = 4, 2
	d.Rules = []api.Rule{eats(2, 0, "", "1"), eats(0, 1, "a", ""), eats(1, 2, "", ""), eats(2, 1, "a", "\U0010ffff"), eats(1, 3, "", "23")}
	d.Finals = []api.Final{{From: 3}, {From: 1}}
	for x, want := range map[string][]string{
		"": nil, "a": {"1", "123", "\U0010ffff", "\U0010ffff23"}, "b": nil,
		"aa": {"11", "1123", "1\U0010ffff", "1\U0010ffff23", "\U0010ffff1", "\U0010ffff123", "\U0010ffff\U0010ffff", "\U0010ffff\U0010ffff23"},
	} {
		wantOutputs(t, d, []rune(x), want)
	}
	d.Finals = append(d.Finals, api.Final{From: 2})
	wantOutputs(t, d, nil, []string{""})
	wantRelates(t, d, nil, nil, true)
	wantRelates(t, d, nil, []rune{0}, false)
	wantOutputs(t, desc.Empty(api.Scalars, api.Bytes), nil, nil)
	wantRelates(t, desc.Empty(api.Scalars, api.Bytes), nil, nil, false)
}

// wantError asks all calls, with a most that is right.
func wantError(t *testing.T, what string, d api.Desc, x []rune, want api.Errno) {
	t.Helper()
	if l, e := run.Outputs(d, x, 5); e != want || len(l) != 0 {
		t.Errorf("Outputs, %s: %v, %d, not %d", what, l, e, want)
	}
	if ok, e := run.Accepts(d, x); e != want || ok {
		t.Errorf("Accepts, %s: %v, %d, not %d", what, ok, e, want)
	}
	if ok, e := run.Relates(d, x, x); e != want || ok {
		t.Errorf("Relates, %s: %v, %d, not %d", what, ok, e, want)
	}
	if w, ok, e := run.Least(d, x); e != want || ok || len(w) != 0 {
		t.Errorf("Least, %s: %v, %v, %d, not %d", what, w, ok, e, want)
	}
}

// P7.1: what is wrong, and of several things that are the first one.
func TestErrors(t *testing.T) {
	broken, cyclic := desc.Same(api.Bytes), desc.Same(api.Bytes)
	broken.Rules[0].Eat = 0
	cyclic.Rules = append(cyclic.Rules, api.Rule{})
	long := slices.Repeat([]rune{'a'}, api.MaxWord+1)
	for what, d := range map[string]api.Desc{"zero": {}, "broken": broken, "a cycle": cyclic} {
		wantError(t, what, d, []rune("a"), api.ErrInvalid)
		wantError(t, what+", and long", d, long, api.ErrInvalid)
		wantError(t, what+", and no symbols", d, []rune{-1}, api.ErrInvalid)
		if l, e := run.Outputs(d, long, 0); e != api.ErrInvalid || len(l) != 0 {
			t.Errorf("Outputs, %s: %v, %d", what, l, e)
		}
	}
	bytes, scalars := desc.Same(api.Bytes), desc.Same(api.Scalars)
	for _, d := range []api.Desc{bytes, scalars, desc.Empty(api.Bytes, api.Bytes)} {
		wantError(t, "long", d, long, api.ErrLong)
		wantError(t, "long, of no symbols", d, slices.Repeat([]rune{-1}, api.MaxWord+1), api.ErrLong)
		if l, e := run.Outputs(d, long, 0); e != api.ErrLong || len(l) != 0 {
			t.Errorf("Outputs: %v, %d", l, e)
		}
	}
	for _, c := range []struct {
		d    api.Desc
		x    rune
		want api.Errno
	}{
		{bytes, -1, api.ErrArg}, {bytes, 256, api.ErrArg}, {bytes, 0xe9 + 1<<8, api.ErrArg}, {bytes, math.MinInt32, api.ErrArg},
		{scalars, -1, api.ErrArg}, {scalars, 0xd800, api.ErrArg}, {scalars, 0xdfff, api.ErrArg}, {scalars, api.MaxRune + 1, api.ErrArg}, {scalars, math.MaxInt32, api.ErrArg},
		{desc.Empty(api.Scalars, api.Bytes), 0xd800, api.ErrArg},
	} {
		wantError(t, fmt.Sprint(c.x), c.d, []rune{c.x}, c.want)
		wantError(t, fmt.Sprint(c.x), c.d, []rune{'a', 'b', c.x}, c.want)
	}
	for _, most := range []int{0, -1, math.MinInt} {
		for _, x := range []string{"", "a"} {
			if l, e := run.Outputs(bytes, []rune(x), most); e != api.ErrArg || len(l) != 0 {
				t.Errorf("Outputs of at most %d: %v, %d", most, l, e)
			}
		}
	}
	wantOutputs(t, scalars, []rune{0, 0xd7ff, 0xe000, api.MaxRune}, []string{"\x00\ud7ff\ue000\U0010ffff"})
	wantOutputs(t, bytes, []rune{0, 255}, []string{"\x00\u00ff"})
}

// P7.1: the longest inputs, with more ways than could ever be gone.
func TestLongest(t *testing.T) {
	x := slices.Repeat([]rune{'a'}, api.MaxWord)
	times := func(y string, n int) string { return strings.Repeat(y, n) }
	two := pairs("a", "y", "a", "x")
	for _, most := range []int{1, 1000, 1 << 20, math.MaxInt} {
		if l, e := run.Outputs(two, x, most); e != api.ErrMany || len(l) != 0 {
			t.Errorf("Outputs of at most %d: %d, %d", most, len(l), e)
		}
	}
	if w, ok, e := run.Least(two, x); string(w) != times("x", 1024) || !ok || e != api.OK {
		t.Errorf("Least: %q, %v, %d", string(w), ok, e)
	}
	wantRelates(t, two, x, []rune(times("xyyx", 256)), true)
	wantRelates(t, two, x, []rune(times("xyyx", 255)+"xyzx"), false)
	wantRelates(t, two, x, []rune(times("x", 1023)), false)
	wantRelates(t, two, x, []rune(times("x", 1025)), false)

	// Many ways write the same.
	wantOutputs(t, pairs("a", "x", "a", "x", "aa", "xx", "aaa", "xxx"), x, []string{times("x", 1024)})
	// Many ways that write unlike things lead nowhere.
	dead := desc.Empty(api.Bytes, api.Bytes)
	dead.States = 3
	dead.Rules = []api.Rule{eats(0, 1, "a", "1"), eats(0, 1, "a", "2"), eats(1, 1, "a", "1"), eats(1, 1, "a", "2"), eats(0, 2, "a", "3"), eats(2, 2, "a", "3")}
	dead.Finals = []api.Final{{From: 2}}
	wantOutputs(t, dead, x, []string{times("3", 1024)})
	// Many ways end, but none leads there.
	dead.Rules[0].Guards, dead.Rules[1].Guards = each("b"), each("b")
	dead.Finals = append(dead.Finals, api.Final{From: 1})
	wantOutputs(t, dead, x, []string{times("3", 1024)})

	var want []string
	for n := range 1025 {
		want = append(want, times("x", n))
	}
	wantOutputs(t, pairs("a", "x", "a", ""), x, want)
	wantOutputs(t, pairs("a", times("z", api.MaxOut)), x, []string{times("z", 1024*api.MaxOut)})
}

// P7.1: the longest outputs of an input without symbols, and more of them than could ever be told.
func TestLongChain(t *testing.T) {
	d := desc.Empty(api.Bytes, api.Bytes)
	d.States = api.MaxStates
	for q := range d.States - 1 {
		d.Rules = append(d.Rules, eats(q, q+1, "", strings.Repeat("s", q%(api.MaxOut+1))))
	}
	d.Finals = []api.Final{{From: d.States - 1}}
	n := 0
	for _, r := range d.Rules {
		n += len(r.Out)
	}
	wantOutputs(t, d, nil, []string{strings.Repeat("s", n)})
	wantRelates(t, d, nil, slices.Repeat([]rune{'s'}, n), true)
	wantRelates(t, d, nil, slices.Repeat([]rune{'s'}, n-1), false)
	for q := range d.States - 1 {
		d.Rules[q].Out = consts("ss"[:q%3])
		d.Rules = append(d.Rules, eats(q, q+1, "", "r"))
	}
	for _, most := range []int{1, 100, math.MaxInt} {
		if l, e := run.Outputs(d, nil, most); e != api.ErrMany || len(l) != 0 {
			t.Errorf("Outputs of at most %d: %d, %d", most, len(l), e)
		}
	}
	// Each third state may write nothing.
	if w, ok, e := run.Least(d, nil); string(w) != strings.Repeat("r", 682) || !ok || e != api.OK {
		t.Errorf("Least: %q, %d, %v, %d", string(w), len(w), ok, e)
	}
}

// relatedAt is from where on y may be what is written, place by place; the description has no epsilon rules.
func relatedAt(d api.Desc, x, y []rune) bool {
	type place struct{ gone, state, told int }
	seen := map[place]int{}
	todo := []place{{0, d.Start, 0}}
	for len(todo) > 0 {
		p := todo[len(todo)-1]
		todo = todo[:len(todo)-1]
		if seen[p] > 0 {
			continue
		}
		seen[p] = 1
		left, rest := x[p.gone:], string(y[p.told:])
		for _, f := range d.Finals {
			if f.From == p.state && len(f.Guards) == len(left) && held(f.Guards, left) && written(f.Out, left) == rest {
				return true
			}
		}
		for _, r := range d.Rules {
			if r.From != p.state || len(r.Guards) > len(left) || !held(r.Guards, left) {
				continue
			}
			if w := written(r.Out, left[:len(r.Guards)]); strings.HasPrefix(rest, w) {
				todo = append(todo, place{p.gone + r.Eat, r.To, p.told + len(w)})
			}
		}
	}
	return false
}

// P7.1: outputs that are long, and are written in many ways.
func TestRelatesLong(t *testing.T) {
	r := chance{rand.New(rand.NewSource(71))}
	yes := 0
	for range 400 {
		d := desc.Empty(api.Bytes, api.Bytes)
		d.States = 1 + r.Intn(2)
		for range 1 + r.Intn(5) {
			w := strings.Repeat([]string{"x", "xy", "yx", "xxy"}[r.Intn(4)], 80)
			from := r.Intn(3)
			d.Rules = append(d.Rules, eats(r.Intn(d.States), r.Intn(d.States), "a", w[from:from+r.pick(0, 1, 2, 3, 31, 32, 33, 61, 62, 63, 64)]))
		}
		d.Finals = []api.Final{{From: r.Intn(d.States), Out: consts("xyx"[:r.Intn(4)])}}
		x := slices.Repeat([]rune{'a'}, r.Intn(12))
		// Something that may be written, and something near it.
		y, q := "", 0
		for range x {
			var l []api.Rule
			for _, one := range d.Rules {
				if one.From == q {
					l = append(l, one)
				}
			}
			if len(l) > 0 {
				one := l[r.Intn(len(l))]
				y, q = y+written(one.Out, x[:1]), one.To
			}
		}
		y += written(d.Finals[0].Out, nil)
		near := []rune(y)
		if len(near) > 0 {
			near[r.Intn(len(near))] ^= 'x' ^ 'y'
		}
		for _, w := range [][]rune{[]rune(y), near, []rune(y + "x"), []rune("x" + y), []rune(y)[:len(y)/2], []rune(y)[len(y)/2:]} {
			want := relatedAt(d, x, w)
			wantRelates(t, d, x, w, want)
			if want && len(w) > 64 {
				yes++
			}
		}
	}
	if yes < 100 {
		t.Errorf("few long outputs are related: %d", yes)
	}
	// Of what each a may write any number is a sum.
	d := desc.Empty(api.Bytes, api.Bytes)
	d.Finals = []api.Final{{}}
	for n := range api.MaxOut {
		d.Rules = append(d.Rules, eats(0, 0, "a", strings.Repeat("x", n+1)))
	}
	x := slices.Repeat([]rune{'a'}, 300)
	for n, want := range map[int]bool{299: false, 300: true, 301: true, 9999: true, 300*api.MaxOut - 1: true, 300 * api.MaxOut: true, 300*api.MaxOut + 1: false} {
		wantRelates(t, d, x, slices.Repeat([]rune{'x'}, n), want)
	}
}

// P7.1: which output comes first, where they begin alike for long.
func TestLeast(t *testing.T) {
	long := strings.Repeat("x", api.MaxOut)
	for _, c := range []struct{ d, x, want string }{
		{"a,x,a,xx", "aaa", "xxx"},
		{"a,x,b,,a,xx,b,w", "ab", "x"},
		{"a,x,b,w,a,xx,b,z", "ab", "xw"},
		{"a,x,b,y,a,xx,b,z", "ab", "xxy"},
		{"a," + long + ",a," + long[1:] + ",b,z,b,y", "aaab", strings.Repeat(long, 3) + "y"},
		{"a," + long + ",a," + long[1:] + ",b,w,b,y", "aaab", strings.Repeat(long[1:], 3) + "w"},
		{"a," + long + ",a," + long[1:], "aaa", strings.Repeat(long[1:], 3)},
		{"a,,a,b", "aaa", ""},
		{"ab,z,a,y,b,x,abab,zzz", "ababab", "yxyxyx"},
		{"ab,xy,a,xyx,b,yx,abab,xyxy", "abab", "xyxy"},
	} {
		w, ok, e := run.Least(pairs(strings.Split(c.d, ",")...), []rune(c.x))
		if string(w) != c.want || !ok || e != api.OK {
			t.Errorf("Least(%s, %q): %q, %v, %d, not %q", c.d, c.x, string(w), ok, e, c.want)
		}
	}
}

// all is all that a description relates an input to.
func all(t *testing.T, d api.Desc, x []rune) [][]rune {
	t.Helper()
	l, e := run.Outputs(d, x, math.MaxInt)
	if e != api.OK {
		t.Fatalf("Outputs(%v, %q): %d", d, string(x), e)
	}
	return l
}

// P7.2
func TestLaws(t *testing.T) {
	r := chance{rand.New(rand.NewSource(72))}
	joined := 0
	for range 2000 {
		a, b := r.desc(), r.desc()
		x := r.word(a.In, r.Intn(5))
		if d, e := desc.Join(a, b); e == api.OK {
			joined++
			if want := texts(word.Sort(slices.Concat(all(t, a, x), all(t, b, x)))); !slices.Equal(texts(all(t, d, x)), want) {
				t.Fatalf("Join(%v, %v) of %q: %q, not %q", a, b, string(x), texts(all(t, d, x)), want)
			}
		}
		wantOutputs(t, desc.Same(a.In), x, []string{string(x)})
		wantRelates(t, desc.Same(a.In), x, append(slices.Clone(x), 'a'), false)
		more := a
		more.Rules = append(slices.Clone(a.Rules), api.Rule{From: r.Intn(a.States), To: r.Intn(a.States), Guards: r.guards(a.In, 1), Eat: 1, Out: consts("x")})
		more.Finals = append(slices.Clone(a.Finals), api.Final{From: r.Intn(a.States), Out: consts("y")})
		for _, y := range all(t, a, x) {
			wantRelates(t, more, x, y, true)
		}
	}
	if joined < 300 {
		t.Errorf("few are joined: %d", joined)
	}
}

// Rule 4: what is handed in isn't changed, its spare room neither; what is answered is new memory, of which no two lists share any.
func TestMemory(t *testing.T) {
	d := desc.Same(api.Bytes)
	d.Rules = append(d.Rules, eats(0, 0, "a", "yz"))
	d.Finals = append(d.Finals, api.Final{Guards: each("a"), Out: consts("yy")})
	before := fmt.Sprint(d)
	x, y := []rune("abaXY")[:3], []rune("abaXY")[:3]
	first, _ := run.Outputs(d, x, 9)
	kept := texts(first)
	if len(kept) < 4 {
		t.Fatalf("Outputs: %q", kept)
	}
	least, _, _ := run.Least(d, x)
	run.Accepts(d, x)
	run.Relates(d, x, y)
	for i, w := range first {
		_ = append(w, 'Q')
		for j := range w {
			w[j] = 'Q'
		}
		if rest := texts(first[i+1:]); !slices.Equal(rest, kept[i+1:]) {
			t.Errorf("outputs share memory: %q", rest)
		}
	}
	for i := range least {
		least[i] = 'Q'
	}
	if fmt.Sprint(d) != before || string(x[:5]) != "abaXY" || string(y[:5]) != "abaXY" {
		t.Errorf("what was handed in is changed: %v, %q, %q", d, string(x[:5]), string(y[:5]))
	}
	if again, _ := run.Outputs(d, x, 9); !slices.Equal(texts(again), kept) {
		t.Errorf("Outputs once more: %q", texts(again))
	}
}
