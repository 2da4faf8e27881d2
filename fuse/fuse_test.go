package fuse_test

import (
	"fmt"
	"math"
	"math/rand"
	"slices"
	"strings"
	"testing"

	"umlaut/api"
	"umlaut/box"
	"umlaut/chain"
	"umlaut/codec"
	"umlaut/desc"
	"umlaut/epsilon"
	"umlaut/fuse"
	"umlaut/look"
	"umlaut/run"
	"umlaut/span"
	"umlaut/term"
	"umlaut/utf"
	"umlaut/word"
)

// set is the spans from each first number to the one behind it.
func set(ends ...int) []api.Span {
	var l []api.Span
	for i := 0; i < len(ends); i += 2 {
		l = append(l, api.Span{Lo: ends[i], Hi: ends[i+1]})
	}
	return l
}

// each is guards of one symbol each.
func each(symbols string) [][]api.Span {
	var l [][]api.Span
	for _, x := range symbols {
		l = append(l, set(int(x), int(x)))
	}
	return l
}

// window is guards.
func window(l ...[]api.Span) [][]api.Span { return l }

// consts is terms that write a text's symbols.
func consts(symbols string) []api.Term {
	var l []api.Term
	for _, x := range symbols {
		l = append(l, term.Const(x))
	}
	return l
}

// eats is a rule that reads and eats a text, and writes another one.
func eats(from, to int, read, write string) api.Rule {
	return api.Rule{From: from, To: to, Guards: each(read), Eat: len([]rune(read)), Out: consts(write)}
}

// ends is a final that writes a text.
func ends(from int, write string) api.Final {
	return api.Final{From: from, Out: consts(write)}
}

// scalars is a description from scalars to scalars.
func scalars(states int, rules []api.Rule, finals ...api.Final) api.Desc {
	return api.Desc{In: api.Scalars, Out: api.Scalars, States: states, Rules: rules, Finals: finals}
}

// of is a description, of other sorts.
func of(in, out api.Sort, d api.Desc) api.Desc {
	d.In, d.Out = in, out
	return d
}

// not is all scalars but some.
func not(l []api.Span) []api.Span { return span.Minus(word.Domain(api.Scalars), l) }

// lines makes an LF of each CR LF, and of each other CR.
func lines() api.Desc {
	cr, lf := set(13, 13), set(10, 10)
	return scalars(1, []api.Rule{
		{Guards: window(cr, lf), Eat: 2, Out: consts("\n")},
		{Guards: window(cr, not(lf)), Eat: 1, Out: consts("\n")},
		{Guards: window(not(cr)), Eat: 1, Out: []api.Term{term.Copy(0, 0)}},
	}, ends(0, ""), api.Final{Guards: window(cr), Out: consts("\n")})
}

// brief is the beginning of what is told of descriptions.
func brief(l ...api.Desc) string {
	s := fmt.Sprint(l)
	return s[:min(len(s), 2000)]
}

// through is what descriptions, one behind the other, make of an input, by the chapter's words; false, if it is very much.
func through(t *testing.T, x []rune, l ...api.Desc) ([][]rune, bool) {
	t.Helper()
	out := [][]rune{x}
	for _, d := range l {
		var next [][]rune
		for _, u := range out {
			more, e := run.Outputs(d, u, 60)
			if e == api.ErrMany {
				return nil, false
			}
			if e != api.OK {
				t.Fatalf("Outputs of %x: %d: %s", u, e, brief(d))
			}
			next = append(next, more...)
		}
		out = word.Sort(next)
	}
	return out, true
}

// wantHead asks whether all holds that is said of what Fuse answers, but for what it relates.
func wantHead(t *testing.T, a, b, c, got api.Desc) {
	t.Helper()
	n, e := fuse.Need(a, b, c)
	if e != api.OK || got.States != n || got.In != api.Bytes || got.Out != api.Bytes {
		t.Fatalf("Fuse: %d states, not %d (%d): %s", got.States, n, e, brief(a, b, c))
	}
	if desc.Check(got) != api.OK || !desc.Free(got) || desc.Width(got) > desc.Width(a) {
		t.Fatalf("Fuse: not well formed, not free, or wide: %s", brief(a, b, c, got))
	}
}

// wantFuse asks of three that go together, on some inputs, and counts what they relate these to.
func wantFuse(t *testing.T, a, b, c api.Desc, inputs [][]rune) (api.Desc, int) {
	t.Helper()
	need, e := fuse.Need(a, b, c)
	if e != api.OK {
		t.Fatalf("Need: %d: %s", e, brief(a, b, c))
	}
	wantError(t, "a budget that is too small", a, b, c, need-1, api.OK, api.ErrBudget)
	got, e := fuse.Fuse(a, b, c, need)
	if e != api.OK {
		t.Fatalf("Fuse: %d: %s", e, brief(a, b, c))
	}
	wantHead(t, a, b, c, got)
	n := 0
	for _, x := range inputs {
		want, ok := through(t, x, a, b, c)
		if !ok {
			continue
		}
		if l, e := run.Outputs(got, x, 60*60*60); e != api.OK || fmt.Sprint(l) != fmt.Sprint(want) {
			t.Fatalf("Fuse: of %x: %x, %d, not %x: %s", x, l, e, want, brief(a, b, c, got))
		}
		n += len(want)
	}
	return got, n
}

// wantError asks both calls for errors, and nothing else; of Need, OK is whatever it tells.
func wantError(t *testing.T, what string, a, b, c api.Desc, n int, need, want api.Errno) {
	t.Helper()
	if k, e := fuse.Need(a, b, c); e != need || (e != api.OK && k != 0) {
		t.Errorf("%s: Need: %d, %d, not %d", what, k, e, need)
	}
	if d, e := fuse.Fuse(a, b, c, n); e != want || fmt.Sprint(d) != fmt.Sprint(api.Desc{}) {
		t.Errorf("%s: %d, not %d; %d rules", what, e, want, len(d.Rules))
	}
}

// raws is texts as words of bytes.
func raws(l ...string) [][]rune {
	var out [][]rune
	for _, s := range l {
		out = append(out, word.Raw([]byte(s)))
	}
	return out
}

// P15.1, P15.2: the chapter's example, and others.
func TestExamples(t *testing.T) {
	texts := raws("", "a", "grün", "a\r\nb\r\r\n", "\r", "€\r𝄞", "\xc3", "\xe2\x82x", "\xf0\x9f\x98", "a\xffb", "\xed\xa0\x80")
	same := desc.Same(api.Scalars)
	if n, e := fuse.Need(codec.Strict(), same, codec.Encoder()); n != 1 || e != api.OK {
		t.Errorf("Need: %d, %d", n, e)
	}
	got, _ := wantFuse(t, codec.Strict(), same, codec.Encoder(), texts)
	// P15.3
	for _, x := range texts {
		b, _ := word.Bytes(x)
		l, _ := run.Outputs(got, x, 2)
		if utf.Valid(b) != (len(l) == 1) || len(l) == 1 && !slices.Equal(l[0], x) {
			t.Errorf("of %x: %x", x, l)
		}
	}
	wantFuse(t, codec.Repairer(), same, codec.Encoder(), texts)
	for _, a := range []api.Desc{codec.Strict(), codec.Repairer()} {
		if n, e := fuse.Need(a, lines(), codec.Encoder()); n != 2 || e != api.OK {
			t.Errorf("Need: %d, %d", n, e)
		}
		wantFuse(t, a, lines(), codec.Encoder(), texts)
		wantFuse(t, a, scalars(1, []api.Rule{eats(0, 0, "ü", "ue")}, ends(0, "!")), codec.Encoder(), raws("", "ü", "üü", "\xc3", "u", "\xc3\xc3"))
	}
}

// ladder is a description whose epsilon rules make two ways of each, so many times; at its end it copies.
func ladder(s api.Sort, out api.Sort, n int) api.Desc {
	d := desc.Same(s)
	d.Out = out
	d.States = n + 1
	d.Rules[0].From, d.Rules[0].To, d.Finals[0].From = n, n, n
	d.Rules[0].Guards = window(set(0, 127))
	for q := range n {
		d.Rules = append(d.Rules, api.Rule{From: q, To: q + 1}, api.Rule{From: q, To: q + 1})
	}
	return d
}

// cycle is a description with so many states, each of which leads to the next one.
func cycle(in, out api.Sort, n int) api.Desc {
	d := api.Desc{In: in, Out: out, States: n, Finals: []api.Final{{}}}
	for q := range n {
		d.Rules = append(d.Rules, api.Rule{From: q, To: (q + 1) % n, Guards: window(set(0, 127)), Eat: 1, Out: []api.Term{term.Copy(0, 0)}})
	}
	return d
}

// singles is a description of as many blocks as rules, and one more.
func singles(n int) api.Desc {
	d := scalars(1, nil, ends(0, ""))
	for i := range n {
		d.Rules = append(d.Rules, api.Rule{Guards: window(set(i, i)), Eat: 1})
	}
	return d
}

// P15.1, P15.2: the errors, and which goes first.
func TestErrors(t *testing.T) {
	a, b, c := codec.Strict(), desc.Same(api.Scalars), codec.Encoder()
	bad := func(d api.Desc) api.Desc {
		d.Start = -1
		return d
	}
	high := ladder(api.Bytes, api.Scalars, 12)
	for _, n := range []int{math.MaxInt, 1, 0, math.MinInt} {
		wantError(t, "nothing", api.Desc{}, api.Desc{}, api.Desc{}, n, api.ErrInvalid, api.ErrInvalid)
		wantError(t, "a isn't well formed", bad(a), b, c, n, api.ErrInvalid, api.ErrInvalid)
		wantError(t, "b isn't well formed", a, bad(b), c, n, api.ErrInvalid, api.ErrInvalid)
		wantError(t, "c isn't well formed", a, b, bad(c), n, api.ErrInvalid, api.ErrInvalid)
		same := desc.Same(api.Bytes)
		same.Rules[0].Guards = window(set(0, 127))
		for i, l := range [][3]api.Desc{{c, b, c}, {a, a, c}, {a, c, c}, {a, b, a}, {b, b, c}, {a, b, b}, {of(1, 1, same), b, c}, {of(2, 2, same), b, c}, {a, of(1, 2, same), c}, {a, of(2, 1, same), c}, {a, b, of(1, 1, same)}, {a, b, of(2, 2, same)}, {c, a, c}} {
			wantError(t, fmt.Sprint("other sorts, ", i), l[0], l[1], l[2], n, api.ErrInvalid, api.ErrInvalid)
		}
		wantError(t, "a is too great, c isn't well formed", high, b, bad(c), n, api.ErrInvalid, api.ErrInvalid)
		wantError(t, "a is too great, b isn't well formed", high, bad(b), c, n, api.ErrInvalid, api.ErrInvalid)
		wantError(t, "b is too great, c isn't well formed", a, of(2, 2, high), bad(c), n, api.ErrInvalid, api.ErrInvalid)
		wantError(t, "a is too great", high, b, c, n, api.ErrLong, api.ErrLong)
		wantError(t, "b is too great", a, of(2, 2, high), c, n, api.ErrLong, api.ErrLong)
		wantError(t, "c is too great", a, b, of(2, 1, high), n, api.ErrLong, api.ErrLong)
		wantError(t, "b has too many blocks", a, singles(1024), c, n, api.ErrLong, api.ErrLong)
		wantError(t, "c has too many blocks", a, b, of(2, 1, singles(1024)), n, api.ErrLong, api.ErrLong)
		wantError(t, "too many states", cycle(1, 2, 5), cycle(2, 2, 5), cycle(2, 1, 41), n, api.ErrLong, api.ErrLong)
	}
	// So many blocks as may be, and so many ways.
	wantFuse(t, a, singles(1023), c, raws("", "a", "aa", "€"))
	wantFuse(t, ladder(1, 2, 10), b, c, raws("", "a", "aa", "\xff"))
	wantFuse(t, a, ladder(2, 2, 10), c, raws("", "a", "aa", "€"))
	wantFuse(t, a, b, ladder(2, 1, 10), raws("", "a", "aa", "€"))
	// So many states as may be.
	wantFuse(t, cycle(1, 2, 8), cycle(2, 2, 4), cycle(2, 1, 32), raws("", "aaaaaaaa", strings.Repeat("a", 32), strings.Repeat("a", 31)))
	wantError(t, "budget", cycle(1, 2, 3), cycle(2, 2, 5), cycle(2, 1, 7), 104, api.OK, api.ErrBudget)
	wantError(t, "budget", cycle(1, 2, 3), cycle(2, 2, 5), cycle(2, 1, 7), math.MinInt, api.OK, api.ErrBudget)
	// What is too great is told behind that the budget is too small.
	long := scalars(1, []api.Rule{eats(0, 0, "a", strings.Repeat("€", 64))}, ends(0, ""))
	wantError(t, "too long, and no budget", a, long, c, 0, api.OK, api.ErrBudget)
	wantError(t, "too long", a, long, c, 1, api.OK, api.ErrLong)
}

// P15.2: what is too great between, but isn't as a whole.
func TestBetween(t *testing.T) {
	// Of a's text b makes one that is too long for a rule, and c leaves nothing of it.
	a := of(1, 2, scalars(1, []api.Rule{eats(0, 0, "a", strings.Repeat("b", 40))}, ends(0, "")))
	b := scalars(1, []api.Rule{eats(0, 0, "b", "xyz")}, ends(0, ""))
	c := of(2, 1, scalars(1, []api.Rule{eats(0, 0, "x", "1"), eats(0, 0, "y", ""), eats(0, 0, "z", "")}, ends(0, "")))
	wantFuse(t, a, b, c, raws("", "a", "aa", "b"))
	// Of each of b's symbols c makes very many, but a writes none of these.
	b = scalars(1, []api.Rule{eats(0, 0, "b", "x"), eats(0, 0, "c", strings.Repeat("x", 40))}, ends(0, ""))
	c = of(2, 1, scalars(1, []api.Rule{eats(0, 0, "x", "12")}, ends(0, "")))
	a.Rules[0] = eats(0, 0, "a", strings.Repeat("b", 30))
	wantFuse(t, a, b, c, raws("", "a", "aa", "b"))
}

// P15.1: as many states as look counts, also where those that there are read one symbol at a time, and some are of no use.
func TestUseless(t *testing.T) {
	b := cycle(2, 2, 3)
	b.States = 7
	b.Rules = append(b.Rules, api.Rule{From: 1, To: 5, Guards: window(set('a', 'a')), Eat: 1}, api.Rule{From: 6, To: 1, Guards: window(set('a', 'a')), Eat: 1})
	if n, e := fuse.Need(codec.Strict(), b, codec.Encoder()); n != 3 || e != api.OK {
		t.Errorf("Need: %d, %d", n, e)
	}
	wantFuse(t, codec.Strict(), b, codec.Encoder(), raws("", "aaa", "aaaa", "aaaaaa", "ü"))
	c := of(2, 1, b)
	wantFuse(t, codec.Repairer(), desc.Same(api.Scalars), c, raws("", "aaa", "aaaa", "aaaaaa", "ü"))
	// Each of these rules tells other symbols apart: of each block all rules that read it would be very many.
	b = scalars(1, nil, ends(0, ""))
	for i := range 500 {
		b.Rules = append(b.Rules, api.Rule{Guards: window(set(i, 2000-i)), Eat: 1, Out: consts(string(rune('a' + i%3)))})
	}
	if _, e := look.Eliminate(b, 1); e != api.ErrLong {
		t.Errorf("Eliminate: %d", e)
	}
	wantFuse(t, codec.Strict(), b, codec.Encoder(), raws("", "a", "aa", "ü", "€", "\x00"))
}

// try is a source of numbers for descriptions.
type try struct{ *rand.Rand }

// desc is a description of a few symbols, with lookahead and epsilon rules.
func (r try) desc(in, out api.Sort) api.Desc {
	for {
		d := api.Desc{In: in, Out: out, States: 1 + r.Intn(3)}
		d.Start = r.Intn(d.States)
		guards := func(least int) [][]api.Span {
			var l [][]api.Span
			for range max(least, r.Intn(3)) {
				l = append(l, [][]api.Span{set('a', 'a'), set('b', 'b'), set('a', 'c'), set('b', 'd'), set('c', 'c', 'e', 'f'), set('a', 0x7f)}[r.Intn(6)])
			}
			return l
		}
		terms := func(n int) []api.Term {
			var l []api.Term
			for range r.Intn(3) {
				if n > 0 && r.Intn(3) > 0 {
					l = append(l, term.Copy(r.Intn(n), r.Intn(3)-1))
				} else {
					l = append(l, term.Const(rune('a'+r.Intn(5))))
				}
			}
			return l
		}
		for range 1 + r.Intn(7) {
			g := guards(r.Intn(8))
			g = g[:min(len(g), 1+r.Intn(2))]
			eat := min(len(g), 1+r.Intn(2))
			d.Rules = append(d.Rules, api.Rule{From: r.Intn(d.States), To: r.Intn(d.States), Guards: g, Eat: eat, Out: terms(len(g))})
		}
		for range 1 + r.Intn(3) {
			g := guards(0)
			if r.Intn(2) == 0 {
				g = nil
			}
			d.Finals = append(d.Finals, api.Final{From: r.Intn(d.States), Guards: g, Out: terms(len(g))})
		}
		if desc.Check(d) == api.OK {
			return d
		}
	}
}

// P15.1, P15.2: descriptions of all kinds.
func TestMany(t *testing.T) {
	r := try{rand.New(rand.NewSource(15))}
	var inputs [][]rune
	for _, x := range []string{"", "a", "b", "c", "ab", "ba", "bc", "ca", "cc", "abc", "bca", "cab", "aaa", "fa", "abca", "bbbb", "ccab"} {
		inputs = append(inputs, word.Of(x))
	}
	made, some, wide, long := 0, 0, 0, 0
	for range 600 {
		a, b, c := r.desc(1, 2), r.desc(2, 2), r.desc(2, 1)
		freeA, _ := epsilon.Free(a)
		freeB, _ := epsilon.Free(b)
		freeC, _ := epsilon.Free(c)
		countB, eB := look.Count(freeB)
		countC, eC := look.Count(freeC)
		want := freeA.States * countB * countC
		n, e := fuse.Need(a, b, c)
		if e == api.ErrLong && n == 0 && (eB == e || eC == e || want > 1024) {
			continue
		}
		if e != api.OK || n != want || want > 1024 {
			t.Fatalf("Need: %d, %d, not %d: %s", n, e, want, brief(a, b, c))
		}
		if _, e := fuse.Fuse(a, b, c, n); e == api.ErrLong {
			long++
			continue
		}
		_, k := wantFuse(t, a, b, c, inputs)
		made++
		if k > 2 {
			some++
		}
		if k > 2 && countB > b.States {
			wide++
		}
	}
	if made < 400 || some < 40 || wide < 10 || long > 20 {
		t.Errorf("few descriptions: %d, %d, %d, and %d too long", made, some, wide, long)
	}
}

// sole tells whether of two rules or finals at most one can be taken, of descriptions of one state.
func sole(d api.Desc) bool {
	for i, r := range d.Rules {
		for _, s := range d.Rules[:i] {
			n := min(len(r.Guards), len(s.Guards))
			if _, ok := box.Meet(r.Guards[:n], s.Guards[:n]); ok {
				return false
			}
		}
		for _, f := range d.Finals {
			if len(r.Guards) <= len(f.Guards) {
				if _, ok := box.Meet(r.Guards, f.Guards[:len(r.Guards)]); ok {
					return false
				}
			}
		}
	}
	for i, f := range d.Finals {
		for _, g := range d.Finals[:i] {
			if _, ok := box.Meet(f.Guards, g.Guards); ok {
				return false
			}
		}
	}
	return true
}

// promised is a description of which ErrLong may not be answered, between a decoder and the encoder.
func (r try) promised() api.Desc {
	d := scalars(1, nil)
	left := word.Domain(api.Scalars)
	for range r.Intn(9) {
		var g []api.Span
		for range 4 {
			lo := []int{r.Intn(300), 0xc0 + r.Intn(0x800), 0x7f0 + r.Intn(0x10000), r.Intn(0x110000), 0xd000 + r.Intn(0x2000), 0x10000 + r.Intn(0x100000)}[r.Intn(6)]
			g = append(g, api.Span{Lo: lo, Hi: lo + r.Intn([]int{1, 3, 100, 5000, 0x40000}[r.Intn(5)])})
		}
		g = span.Meet(g, left)
		g = g[:min(len(g), 4)]
		if len(g) == 0 {
			continue
		}
		left = span.Minus(left, g)
		x := api.Rule{Guards: window(g), Eat: 1}
		for range r.Intn(9) {
			if r.Intn(2) == 0 {
				x.Out = append(x.Out, term.Copy(0, 0))
			} else {
				x.Out = append(x.Out, term.Const(rune([]int{r.Intn(0xd800), 0xe000 + r.Intn(0x100000)}[r.Intn(2)])))
			}
		}
		d.Rules = append(d.Rules, x)
	}
	if r.Intn(5) > 0 {
		d.Finals = []api.Final{{}}
		for range r.Intn(9) {
			d.Finals[0].Out = append(d.Finals[0].Out, term.Const(rune(0x10000+r.Intn(0x10000))))
		}
	}
	return d
}

// text is bytes that some of a description's symbols are, and a few others.
func (r try) text(d api.Desc) []rune {
	var out []byte
	for range r.Intn(5) {
		if len(d.Rules) > 0 && r.Intn(8) > 0 {
			g := d.Rules[r.Intn(len(d.Rules))].Guards[0]
			s := g[r.Intn(len(g))]
			out = append(out, utf.Encode(rune([]int{s.Lo, s.Hi, s.Lo + r.Intn(s.Hi-s.Lo+1)}[r.Intn(3)]))...)
		} else {
			out = append(out, byte(r.Intn(256)))
		}
	}
	return word.Raw(out[:max(0, len(out)-r.Intn(r.Intn(4)+1))])
}

// P15.2: where ErrLong may not be answered.
func TestPromised(t *testing.T) {
	r := try{rand.New(rand.NewSource(8))}
	some := 0
	for i := range 150 {
		b := r.promised()
		if desc.Check(b) != api.OK || !chain.One(b) || !sole(b) {
			t.Fatalf("not promised: %s", brief(b))
		}
		var inputs [][]rune
		for range 30 {
			inputs = append(inputs, r.text(b))
		}
		got, n := wantFuse(t, []api.Desc{codec.Strict(), codec.Repairer()}[i%2], b, codec.Encoder(), inputs)
		if got.States != 1 || !sole(got) {
			t.Fatalf("Fuse: %d states, or not sole: %s", got.States, brief(b))
		}
		if n > 3 {
			some++
		}
	}
	if some < 50 {
		t.Errorf("few are related to something: %d", some)
	}
}

// P15.2: the greatest of these write, at an end that is a part, as much as a final may.
func TestPromisedGreatest(t *testing.T) {
	much := strings.Repeat("𝄞", 8)
	b := scalars(1, []api.Rule{{Guards: window(word.Domain(api.Scalars)), Eat: 1, Out: consts(much)}}, ends(0, much))
	got, _ := wantFuse(t, codec.Repairer(), b, codec.Encoder(), raws("", "a", "\xe2\x82", "\xf0", "\xf0\x9f\x98x"))
	if desc.Longest(got) != api.MaxOut {
		t.Errorf("%d terms at most", desc.Longest(got))
	}
	// Of each second symbol of each kind something else is written.
	b.Rules = nil
	for i := range 8 {
		var g []api.Span
		for j := range 4 {
			lo := []int{0x1001, 0x20001, 0x50003, 0x81005}[j] + 0x1085*i
			g = append(g, api.Span{Lo: lo, Hi: lo + 0x1041})
		}
		b.Rules = append(b.Rules, api.Rule{Guards: window(g), Eat: 1, Out: append(consts(much[:4*7]), term.Const(rune('a'+i)))})
	}
	for _, a := range []api.Desc{codec.Strict(), codec.Repairer()} {
		wantFuse(t, a, b, codec.Encoder(), raws("", "a", "ሴ", "𠀁", "\xe1\x80\x81", "\xe1\x80\x80", "\xf0\xa0\x80\x81\xe2\x82"))
	}
}

// roomy is a list with room behind it, in which something stands.
func roomy[T any](l []T, behind T) []T {
	return append(l[:len(l):len(l)], behind, behind)[:len(l)]
}

// roomyDesc is a description with room behind all of its lists.
func roomyDesc(d api.Desc) api.Desc {
	guards := func(l [][]api.Span) [][]api.Span {
		for i := range l {
			l[i] = roomy(l[i], api.Span{Lo: 66})
		}
		return roomy(l, []api.Span{{Lo: 67}})
	}
	terms := func(l []api.Term) []api.Term {
		for i := range l {
			l[i].Parts = roomy(l[i].Parts, api.Part{At: 66})
		}
		return roomy(l, api.Term{Sum: 66})
	}
	for i, r := range d.Rules {
		d.Rules[i].Guards, d.Rules[i].Out = guards(r.Guards), terms(r.Out)
	}
	for i, f := range d.Finals {
		d.Finals[i].Guards, d.Finals[i].Out = guards(f.Guards), terms(f.Out)
	}
	d.Rules, d.Finals = roomy(d.Rules, api.Rule{From: 66}), roomy(d.Finals, api.Final{From: 66})
	return d
}

// whole is a description as a text, with all that lies in its lists' room.
func whole(d api.Desc) string {
	out := fmt.Sprint(d)
	wide := func(g [][]api.Span, l []api.Term) {
		for _, s := range g[:cap(g)] {
			out += fmt.Sprint(s[:cap(s)])
		}
		for _, x := range l[:cap(l)] {
			out += fmt.Sprint(x, x.Parts[:cap(x.Parts)])
		}
	}
	for _, r := range d.Rules[:cap(d.Rules)] {
		out += fmt.Sprint(r)
		wide(r.Guards, r.Out)
	}
	for _, f := range d.Finals[:cap(d.Finals)] {
		out += fmt.Sprint(f)
		wide(f.Guards, f.Out)
	}
	return out
}

// scrawl writes into lists of spans and terms, and what they hold, their lists' room too.
func scrawl(g [][]api.Span, l []api.Term) {
	for _, s := range g {
		for i := range s[:cap(s)] {
			s[:cap(s)][i].Lo = -7
		}
	}
	for _, x := range l {
		for i := range x.Parts[:cap(x.Parts)] {
			x.Parts[:cap(x.Parts)][i].Up = -7
		}
	}
	clear(g[:cap(g)])
	for i := range l[:cap(l)] {
		l[:cap(l)][i] = api.Term{Base: -7}
	}
}

// Rule 4: what is handed in isn't changed, its spare room neither; what is answered is new memory, of which no two lists share any.
func TestMemory(t *testing.T) {
	a, b, c := roomyDesc(codec.Repairer()), roomyDesc(lines()), roomyDesc(codec.Encoder())
	were := whole(a) + whole(b) + whole(c)
	got, _ := wantFuse(t, a, b, c, raws("a\r\nb"))
	want := fmt.Sprint(got)
	for i := range got.Rules {
		scrawl(got.Rules[i].Guards, got.Rules[i].Out)
		got.Rules[i] = api.Rule{}
		again, _ := fuse.Fuse(a, b, c, 2)
		if fmt.Sprint(got.Rules[i+1:], got.Finals) != fmt.Sprint(again.Rules[i+1:], again.Finals) {
			t.Errorf("what was answered shares memory within, or with what was handed in: rule %d", i)
		}
	}
	for i := range got.Finals {
		scrawl(got.Finals[i].Guards, got.Finals[i].Out)
		got.Finals[i] = api.Final{}
		again, _ := fuse.Fuse(a, b, c, 2)
		if fmt.Sprint(got.Finals[i+1:]) != fmt.Sprint(again.Finals[i+1:]) {
			t.Errorf("what was answered shares memory within, or with what was handed in: final %d", i)
		}
	}
	if again, _ := fuse.Fuse(a, b, c, 2); fmt.Sprint(again) != want || whole(a)+whole(b)+whole(c) != were {
		t.Error("what was handed in is changed")
	}
}
