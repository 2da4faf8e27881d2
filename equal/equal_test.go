package equal_test

import (
	"fmt"
	"math"
	"slices"
	"strings"
	"testing"

	"umlaut/api"
	"umlaut/chain"
	"umlaut/codec"
	"umlaut/desc"
	"umlaut/equal"
	"umlaut/escape"
	"umlaut/fuse"
	"umlaut/look"
	"umlaut/minterm"
	"umlaut/run"
	"umlaut/span"
	"umlaut/term"
	"umlaut/word"
)

// set is the spans from each first number to the one behind it.
func set(ends ...int) []api.Span {
	var l []api.Span
	for i := 0; i < len(ends); i += 2 {
		l = append(l, api.Span{Lo: ends[i], Hi: ends[i+1]})
	}
	return l
}

// each is a guard for each of a text's symbols, that has this one alone.
func each(symbols string) [][]api.Span {
	var l [][]api.Span
	for _, x := range symbols {
		l = append(l, set(int(x), int(x)))
	}
	return l
}

// consts is terms that write a text's symbols.
func consts(symbols string) []api.Term {
	var l []api.Term
	for _, x := range symbols {
		l = append(l, term.Const(x))
	}
	return l
}

// eats is a rule that reads a text, eats some of it, and writes another one.
func eats(from, to int, read string, eat int, write string) api.Rule {
	return api.Rule{From: from, To: to, Guards: each(read), Eat: eat, Out: consts(write)}
}

// one is a rule that reads and eats a symbol, and writes a text.
func one(from, to int, read, write string) api.Rule {
	return eats(from, to, read, 1, write)
}

// reads is a rule that reads and eats a symbol of a set, and writes.
func reads(from, to int, guard []api.Span, out ...api.Term) api.Rule {
	return api.Rule{From: from, To: to, Guards: [][]api.Span{guard}, Eat: 1, Out: out}
}

// ends is a final where a text is left, and that writes.
func ends(from int, read, write string) api.Final {
	return api.Final{From: from, Guards: each(read), Out: consts(write)}
}

// from is a description from bytes to bytes, of as many states as its rules and finals tell of.
func from(rules []api.Rule, finals ...api.Final) api.Desc {
	d := api.Desc{In: api.Bytes, Out: api.Bytes, States: 1, Rules: rules, Finals: finals}
	for _, r := range rules {
		d.States = max(d.States, r.From+1, r.To+1)
	}
	for _, f := range finals {
		d.States = max(d.States, f.From+1)
	}
	return d
}

// of is a description from one sort to another.
func of(in, out api.Sort, d api.Desc) api.Desc {
	d.In, d.Out = in, out
	return d
}

// brief is the beginning of what is told of descriptions.
func brief(l ...api.Desc) string {
	s := fmt.Sprint(l)
	return s[:min(len(s), 2000)]
}

// outputs is at most three things to which a description relates an input.
func outputs(d api.Desc, x []rune) [][]rune {
	for n := 1; n < 3; n++ {
		if l, e := run.Outputs(d, x, n); e == api.OK {
			return l
		}
	}
	// There are more: two of these tell.
	l, _ := run.Outputs(d, x, 1<<12)
	return l[:min(len(l), 3)]
}

// related tells whether a description relates an input to an output.
func related(t *testing.T, d api.Desc, x, y []rune) bool {
	t.Helper()
	ok, e := run.Relates(d, x, y)
	if e != api.OK {
		t.Fatalf("Relates: %d: %s", e, brief(d))
	}
	return ok
}

// wantTrue asks whether what a verdict tells holds, as far as its own input tells.
func wantTrue(t *testing.T, a, b api.Desc, v api.Verdict) {
	t.Helper()
	ok := false
	switch v.Kind {
	case api.VYes:
		ok = len(v.X)+len(v.Y)+len(v.Z) == 0
	case api.VLeft:
		ok = related(t, a, v.X, v.Y) && related(t, a, v.X, v.Z) && !slices.Equal(v.Y, v.Z)
	case api.VRight:
		ok = related(t, b, v.X, v.Y) && related(t, b, v.X, v.Z) && !slices.Equal(v.Y, v.Z)
	case api.VNo:
		y, z := outputs(a, v.X), outputs(b, v.X)
		if len(y) == 1 && len(z) == 1 {
			ok = slices.Equal(y[0], v.Y) && slices.Equal(z[0], v.Z) && !slices.Equal(v.Y, v.Z)
		} else {
			ok = len(y)+len(z) == 1 && len(v.Y)+len(v.Z) == 0
		}
	}
	if !ok {
		t.Fatalf("not true: %v: %s", v, brief(a, b))
	}
}

// decide asks Equal, both ways round, with the least budget that is never too small.
func decide(t *testing.T, a, b api.Desc) api.Verdict {
	t.Helper()
	n, e := equal.Enough(a, b)
	m, f := equal.Enough(b, a)
	if e != api.OK || f != api.OK || n != m || n < 8 {
		t.Fatalf("Enough: %d, %d, the other way round %d, %d: %s", n, e, m, f, brief(a, b))
	}
	v, e := equal.Equal(a, b, n)
	back, f := equal.Equal(b, a, n)
	if e != api.OK || f != api.OK {
		t.Fatalf("Equal: %v, %d, the other way round %v, %d: %s", v, e, back, f, brief(a, b))
	}
	wantTrue(t, a, b, v)
	wantTrue(t, b, a, back)
	// Where both aren't single, the left one is told, either way round.
	want := map[int][]int{api.VYes: {api.VYes}, api.VNo: {api.VNo}, api.VLeft: {api.VLeft, api.VRight}, api.VRight: {api.VLeft}}
	if !slices.Contains(want[v.Kind], back.Kind) {
		t.Fatalf("Equal: %v, the other way round %v: %s", v, back, brief(a, b))
	}
	if again, _ := equal.Equal(a, b, n); fmt.Sprint(again) != fmt.Sprint(v) {
		t.Fatalf("Equal: %v, and then %v: %s", v, again, brief(a, b))
	}
	return v
}

// wantKind asks for a kind of verdict.
func wantKind(t *testing.T, what string, a, b api.Desc, kind int) api.Verdict {
	t.Helper()
	v := decide(t, a, b)
	if v.Kind != kind {
		t.Errorf("%s: %v, not %d", what, v, kind)
	}
	return v
}

// P22.1, P22.2: the chapter's examples, and those of the whole.
func TestExamples(t *testing.T) {
	if v, e := equal.Equal(codec.Strict(), codec.Encoder(), math.MaxInt); e != api.ErrInvalid || v.Kind != 0 {
		t.Errorf("Strict and Encoder: %v, %d", v, e)
	}
	same, none := desc.Same(api.Bytes), desc.Empty(api.Bytes, api.Bytes)
	wantKind(t, "something and nothing", same, none, api.VNo)
	wantKind(t, "the same", same, same, api.VYes)
	wantKind(t, "nothing", none, none, api.VYes)
	two := from([]api.Rule{one(0, 0, "a", "x"), one(0, 0, "a", "y")}, api.Final{})
	v := wantKind(t, "x or y", two, same, api.VLeft)
	if string(v.X) != "a" || string(v.Y)+string(v.Z) != "xy" && string(v.Y)+string(v.Z) != "yx" {
		t.Errorf("x or y: %v", v)
	}
	wantKind(t, "x or y behind what is single", same, two, api.VRight)
	wantKind(t, "x or y twice", two, two, api.VLeft)
	early, late := from([]api.Rule{one(0, 1, "a", "xy"), one(1, 2, "b", "z")}, ends(2, "", "")), from([]api.Rule{one(0, 1, "a", "x"), one(1, 2, "b", "yz")}, ends(2, "", ""))
	wantKind(t, "xy and z", early, late, api.VYes)
}

// lines makes an LF of each CR LF, and of each other CR.
func lines() api.Desc {
	cr, lf := set(13, 13), set(10, 10)
	not := func(l []api.Span) []api.Span { return span.Minus(word.Domain(api.Scalars), l) }
	return of(api.Scalars, api.Scalars, from([]api.Rule{
		{Guards: [][]api.Span{cr, lf}, Eat: 2, Out: consts("\n")},
		{Guards: [][]api.Span{cr, not(lf)}, Eat: 1, Out: consts("\n")},
		reads(0, 0, not(cr), term.Copy(0, 0)),
	}, api.Final{}, ends(0, "\r", "\n")))
}

// P22.2: the same in other words, and what is nearly the same.
func TestForms(t *testing.T) {
	x := func(l ...api.Final) api.Desc {
		return from([]api.Rule{one(0, 1, "a", "x"), {From: 1, To: 2, Out: consts("y")}, one(2, 2, "b", "z")}, l...)
	}
	d := x(ends(2, "", ""))
	for _, c := range []struct {
		what string
		b    api.Desc
		kind int
	}{
		{"itself", d, api.VYes},
		{"without epsilon rules", from([]api.Rule{one(0, 2, "a", "xy"), one(2, 2, "b", "z")}, ends(2, "", "")), api.VYes},
		{"with more of them", from([]api.Rule{{To: 1}, {To: 2}, one(1, 3, "a", "xy"), one(2, 4, "a", "xy"), {From: 4, To: 3}, one(3, 3, "b", "z")}, ends(3, "", "")), api.VYes},
		{"with lookahead", from([]api.Rule{eats(0, 0, "ab", 2, "xyz"), eats(0, 1, "a", 1, "xy"), eats(1, 1, "bb", 1, "z"), one(1, 1, "b", "z"), one(0, 2, "b", "z"), eats(2, 2, "b", 1, "z")}, ends(1, "", ""), ends(2, "", "")), api.VNo},
		{"with two ways for some", from([]api.Rule{one(0, 2, "a", "xy"), one(2, 2, "b", "z"), eats(0, 2, "ab", 2, "xyz"), eats(0, 2, "ab", 1, "xy")}, ends(2, "", ""), ends(2, "b", "z")), api.VYes},
		{"with an end that tells more", from([]api.Rule{one(0, 2, "a", "xy"), one(2, 2, "b", "z")}, ends(2, "", ""), ends(2, "bb", "z")), api.VRight},
		{"with an end that tells of another input", from([]api.Rule{one(0, 2, "a", "xy"), one(2, 2, "b", "z")}, ends(2, "", ""), ends(2, "c", "z")), api.VNo},
		{"with no input that is longest", from([]api.Rule{one(0, 2, "a", "xy"), one(2, 3, "b", "z"), one(3, 2, "b", "z")}, ends(2, "", "")), api.VNo},
		{"with another text, late", from([]api.Rule{one(0, 2, "a", "xy"), one(2, 3, "b", "z"), one(3, 4, "b", "z"), one(4, 4, "b", "y")}, ends(2, "", ""), ends(3, "", ""), ends(4, "", "")), api.VNo},
	} {
		wantKind(t, c.what, d, c.b, c.kind)
	}
	if v := wantKind(t, "an input less", d, x(ends(2, "b", "z")), api.VNo); string(v.X) != "a" {
		t.Errorf("an input less: %v", v)
	}
	if v := wantKind(t, "nothing is written, and nothing related", from(nil, api.Final{}), from(nil), api.VNo); len(v.X)+len(v.Y)+len(v.Z) > 0 {
		t.Errorf("nothing: %v", v)
	}
	if v := wantKind(t, "an end", from(nil, api.Final{}), from(nil, ends(0, "", "y")), api.VNo); len(v.X)+len(v.Y) > 0 || string(v.Z) != "y" {
		t.Errorf("an end: %v", v)
	}
}

// P22.2: who isn't single counts more than what is unlike, and the left one more than the right one; where what isn't single comes to no end that counts for nothing.
func TestKinds(t *testing.T) {
	two := func(x, y string) api.Desc {
		return from([]api.Rule{one(0, 0, "a", x), eats(0, 0, "a", 1, y)}, api.Final{})
	}
	single := from([]api.Rule{one(0, 0, "a", "x")}, api.Final{})
	for _, c := range []struct {
		what string
		a, b api.Desc
		kind int
	}{
		{"two and one", two("x", "y"), single, api.VLeft},
		{"one and two", single, two("x", "y"), api.VRight},
		{"two and other two", two("x", "y"), two("v", "w"), api.VLeft},
		{"two alike", two("x", "x"), single, api.VYes},
		{"two, and another input", two("x", "y"), from([]api.Rule{one(0, 0, "b", "x")}, api.Final{}), api.VLeft},
		{"another input, and two", from([]api.Rule{one(0, 0, "b", "x")}, api.Final{}), two("x", "y"), api.VRight},
		{"two, and nothing", two("x", ""), from(nil), api.VLeft},
		{"nothing, and two", from(nil), two("x", ""), api.VRight},
		{"two that come to no end", of(1, 1, from([]api.Rule{one(0, 0, "a", "x"), one(0, 1, "a", "y"), one(0, 1, "a", "z"), one(1, 1, "a", "y")}, api.Final{})), single, api.VYes},
		{"two ends", from(nil, ends(0, "", "x"), ends(0, "", "y")), single, api.VLeft},
		{"two epsilon rules", from([]api.Rule{{To: 1, Out: consts("x")}, {To: 1, Out: consts("y")}}, ends(1, "", "")), single, api.VLeft},
		{"a rule that eats more, and one that eats less", from([]api.Rule{eats(0, 0, "aa", 2, "x"), eats(0, 0, "aa", 1, "x"), one(0, 0, "a", "x")}, api.Final{}), single, api.VLeft},
	} {
		wantKind(t, c.what, c.a, c.b, c.kind)
	}
	// A union of what is the same is the same, and of what isn't isn't single.
	same := desc.Same(api.Scalars)
	both, _ := desc.Join(same, same)
	wantKind(t, "joined with itself", both, same, api.VYes)
	both, _ = desc.Join(lines(), same)
	wantKind(t, "joined with another one", both, same, api.VLeft)
	wantKind(t, "joined with another one, behind", same, both, api.VRight)
}

// circle reads a's, in a circle of so many states, writes something of each, and ends at those states that are asked for.
func circle(n int, end func(q int) bool, out ...api.Term) api.Desc {
	d := from(nil)
	d.States = n
	for q := range n {
		d.Rules = append(d.Rules, reads(q, (q+1)%n, set('a', 'a'), out...))
		if end(q) {
			d.Finals = append(d.Finals, ends(q, "", "."))
		}
	}
	return d
}

// at is one state; but is all others.
func at(q int) func(int) bool  { return func(x int) bool { return x == q } }
func but(q int) func(int) bool { return func(x int) bool { return x != q } }

// wantNothing asks for an input of so many symbols, which one of two relates to nothing: no outputs are told then.
func wantNothing(t *testing.T, a, b api.Desc, n int) {
	t.Helper()
	for range 2 {
		v, e := equal.Equal(a, b, math.MaxInt)
		if e != api.OK || v.Kind != api.VNo || len(v.X) != n || len(v.Y)+len(v.Z) > 0 {
			t.Errorf("%d symbols: %d, %d symbols to %q and %q, %d", n, v.Kind, len(v.X), string(v.Y), string(v.Z), e)
		}
		a, b = b, a
	}
}

// P22.2: inputs that one relates to nothing.
func TestNothing(t *testing.T) {
	for _, n := range []int{3, 30, 64} {
		wantNothing(t, circle(n, at(n-1), term.Copy(0, 1)), circle(n-1, at(n-2), term.Copy(0, 1)), n-2)
	}
	// An input that is longer than what is run: one reads all but what neither of two circles ends at.
	either, e := desc.Join(circle(36, but(35), term.Const('x')), circle(35, but(34), term.Const('x')))
	if e != api.OK {
		t.Fatalf("Join: %d", e)
	}
	wantNothing(t, circle(1, at(0), term.Const('x')), either, 36*35-1)
}

// wantErrors asks both functions, both ways round, with any budget.
func wantErrors(t *testing.T, what string, a, b api.Desc, want api.Errno) {
	t.Helper()
	for range 2 {
		if n, e := equal.Enough(a, b); n != 0 || e != want {
			t.Errorf("%s: Enough: %d, %d, not %d", what, n, e, want)
		}
		for _, n := range []int{math.MinInt, -1, 0, 1, math.MaxInt} {
			if v, e := equal.Equal(a, b, n); fmt.Sprint(v) != fmt.Sprint(api.Verdict{}) || e != want {
				t.Errorf("%s: Equal: %v, %d, not %d", what, v, e, want)
			}
		}
		a, b = b, a
	}
}

// P22.1: what is no description, or of other sorts.
func TestInvalid(t *testing.T) {
	same := desc.Same(api.Bytes)
	for i, change := range []func(*api.Desc){
		func(d *api.Desc) { d.States = 0 }, func(d *api.Desc) { d.In = 0 }, func(d *api.Desc) { d.Out = 3 }, func(d *api.Desc) { d.Start = 1 },
		func(d *api.Desc) { d.Rules[0].To = 1 }, func(d *api.Desc) { d.Rules[0].Eat = 0 }, func(d *api.Desc) { d.Rules[0].Guards[0] = set(0, 256) },
		func(d *api.Desc) { d.Rules[0].Out = []api.Term{term.Copy(0, -1)} }, func(d *api.Desc) { d.Finals[0].From = -1 },
		func(d *api.Desc) { d.Rules = append(d.Rules, api.Rule{}) },
	} {
		d := desc.Same(api.Bytes)
		change(&d)
		if desc.Check(d) != api.ErrInvalid {
			t.Fatalf("%d is well formed", i)
		}
		wantErrors(t, fmt.Sprint("wrong ", i), d, same, api.ErrInvalid)
		wantErrors(t, fmt.Sprint("wrong twice ", i), d, d, api.ErrInvalid)
		d = codec.Strict()
		change(&d)
		wantErrors(t, fmt.Sprint("wrong, and too long ", i), d, codec.Strict(), api.ErrInvalid)
	}
	wantErrors(t, "no description", api.Desc{}, api.Desc{}, api.ErrInvalid)
	wantErrors(t, "other sorts", same, desc.Same(api.Scalars), api.ErrInvalid)
	wantErrors(t, "another In", desc.Empty(api.Bytes, api.Bytes), desc.Empty(api.Scalars, api.Bytes), api.ErrInvalid)
	wantErrors(t, "another Out", desc.Empty(api.Bytes, api.Bytes), desc.Empty(api.Bytes, api.Scalars), api.ErrInvalid)
	wantErrors(t, "another In, and too long", desc.Same(api.Scalars), codec.Strict(), api.ErrInvalid)
	wantErrors(t, "another Out, and too long", same, codec.Strict(), api.ErrInvalid)
}

// scalars is a description from scalars to scalars, of some states.
func scalars(states int, rules []api.Rule, finals ...api.Final) api.Desc {
	return api.Desc{In: api.Scalars, Out: api.Scalars, States: states, Rules: rules, Finals: finals}
}

// holds reads one of so many symbols ahead, and remembers which: it has a place for each, and one more.
func holds(first, n int) api.Desc {
	return scalars(1, []api.Rule{{Guards: [][]api.Span{set(first, first+n-1), set('a', 'a')}, Eat: 2, Out: []api.Term{term.Copy(0, 0)}}}, api.Final{})
}

// singles is a rule of a state for each of so many symbols.
func singles(q, first, n int) []api.Rule {
	var l []api.Rule
	for i := range n {
		l = append(l, reads(q, q, set(first+i, first+i)))
	}
	return l
}

// row is epsilon rules from each of so many states to all behind it.
func row(n int) []api.Rule {
	var l []api.Rule
	for q := range n {
		for to := q + 1; to < n; to++ {
			l = append(l, api.Rule{From: q, To: to})
		}
	}
	return l
}

// P22.1: what can't be made ready is too long for both functions, with any budget; what just can isn't.
func TestLong(t *testing.T) {
	none := desc.Empty(api.Scalars, api.Scalars)
	spans := func(n int) []api.Span {
		var l []api.Span
		for i := range n {
			l = append(l, api.Span{Lo: 2*i + 1, Hi: 2*i + 1})
		}
		return l
	}
	places := slices.Clip(holds(1000, 1022).Rules)
	repeat := func(n int, l ...api.Rule) []api.Rule { return slices.Repeat(l, n) }
	epsilon := func(n int, write string) []api.Rule {
		return append(repeat(n, api.Rule{To: 1, Out: consts(strings.Repeat("x", 40))}), one(1, 1, "a", write))
	}
	for _, c := range []struct {
		what         string
		fits, longer api.Desc
	}{
		{"places", scalars(2, append(places, one(0, 1, "a", "")), ends(1, "", "")), scalars(3, append(places, one(0, 1, "a", ""), one(1, 2, "a", "")), ends(2, "", ""))},
		{"blocks of one", scalars(1, singles(0, 0, 1023), api.Final{}), scalars(1, singles(0, 0, 1024), api.Final{})},
		{"spans of a block", scalars(1, []api.Rule{reads(0, 0, spans(62))}), scalars(1, []api.Rule{reads(0, 0, spans(63))})},
		{"ways", scalars(12, row(12), ends(11, "", "")), scalars(13, row(13), ends(12, "", ""))},
		{"rules without epsilon rules", scalars(2, epsilon(40, "y"), ends(1, "", "")), scalars(2, append(epsilon(63, "y"), repeat(64, one(1, 1, "b", "y"))...), ends(1, "", ""))},
		{"what one writes", scalars(2, epsilon(1, strings.Repeat("y", 24)), ends(1, "", "")), scalars(2, epsilon(1, strings.Repeat("y", 25)), ends(1, "", ""))},
		{"rules of blocks", scalars(1, append(repeat(2047, reads(0, 0, set('a', 'b'))), one(0, 0, "a", "")), api.Final{}), scalars(1, append(repeat(2048, reads(0, 0, set('a', 'b'))), one(0, 0, "a", "")), api.Final{})},
	} {
		for _, a := range [...]struct {
			d    api.Desc
			want api.Errno
		}{{c.fits, api.OK}, {c.longer, api.ErrLong}} {
			if desc.Check(a.d) != api.OK {
				t.Fatalf("%s: not well formed", c.what)
			}
			if a.want == api.ErrLong {
				wantErrors(t, c.what, a.d, none, a.want)
				continue
			}
			if v, e := equal.Equal(a.d, none, math.MaxInt); e != api.OK || v.Kind == 0 {
				t.Errorf("%s: %v, %d", c.what, v, e)
			}
			if _, e := equal.Enough(none, a.d); e != api.OK {
				t.Errorf("%s: Enough: %d", c.what, e)
			}
		}
	}
	wantErrors(t, "a decoder", codec.Strict(), codec.Strict(), api.ErrLong)
	wantErrors(t, "a decoder that repairs", codec.Repairer(), desc.Empty(api.Bytes, api.Scalars), api.ErrLong)
}

// P22.1: how many blocks the guards of both, ready, may tell apart.
func TestBlocks(t *testing.T) {
	few := scalars(1, singles(0, 1000, 600), api.Final{})
	for n, want := range map[int]api.Errno{423: api.OK, 424: api.ErrLong} {
		more := scalars(1, singles(0, 3000, n), api.Final{})
		if want == api.ErrLong {
			wantErrors(t, "blocks of both", few, more, want)
			continue
		}
		if v, e := equal.Equal(few, more, math.MaxInt); v.Kind != api.VNo || e != want {
			t.Errorf("blocks of both: %v, %d", v, e)
		}
	}
	// Guards that tell few blocks apart tell more when what was read is remembered ..
	a, b := holds(1000, 600), holds(3000, 600)
	if l, e := minterm.Split(word.Domain(api.Scalars), slices.Concat(a.Rules[0].Guards, b.Rules[0].Guards)); len(l) != 4 || e != api.OK {
		t.Fatalf("%d blocks, %d", len(l), e)
	}
	wantErrors(t, "blocks that are held", a, b, api.ErrLong)
	// .. and those of states that don't come tell none.
	far := func(first int) api.Desc {
		return scalars(2, append(singles(1, first, 600), one(0, 0, "a", "b")), api.Final{})
	}
	if v, e := equal.Equal(far(1000), far(3000), 8); v.Kind != api.VYes || e != api.OK {
		t.Errorf("blocks of states that don't come: %v, %d", v, e)
	}
}

// P22.1: what Enough answers.
func TestEnough(t *testing.T) {
	for _, c := range []struct{ s, t, want int }{
		{1, 1, 4 + 4}, {1, 2, 8 + 9}, {3, 2, 32 + 25}, {10, 20, 1<<30 + 900}, {20, 20, 1<<40 + 1600}, {30, 30, 1<<60 + 3600},
		{30, 31, 1<<61 + 3721}, {1, 60, 1<<61 + 3721}, {31, 31, 1 << 62}, {61, 1, 1 << 62}, {32, 31, 1 << 62}, {100, 3, 1 << 62}, {1024, 1024, 1 << 62}, {1, 1024, 1 << 62},
	} {
		n, e := equal.Enough(circle(c.s, at(0)), circle(c.t, at(0)))
		if n != c.want || e != api.OK {
			t.Errorf("Enough of %d and %d states: %d, %d, not %d", c.s, c.t, n, e, c.want)
		}
	}
	// The states are those that are ready: of places, and that come.
	d := circle(5, at(0))
	d.States = 50
	if n, e := equal.Enough(d, lined()); n != 1<<7+49 || e != api.OK {
		t.Errorf("Enough of 5 states and 2 places: %d, %d", n, e)
	}
}

// lined is lines, of bytes.
func lined() api.Desc {
	d := lines()
	d.In, d.Out = api.Bytes, api.Bytes
	for i := range d.Rules {
		for k, g := range d.Rules[i].Guards {
			d.Rules[i].Guards[k] = span.Meet(g, word.Domain(api.Bytes))
		}
	}
	d.Rules[2].Out[0].Parts[0].Take = 8
	return d
}

// late reads a's and b's, of which the one that is so many ahead of the end is an a.
func late(n int) api.Desc {
	ab := set('a', 'b')
	l := []api.Rule{reads(0, 0, ab, term.Copy(0, 0)), reads(0, 1, set('a', 'a'), term.Copy(0, 0))}
	for q := 1; q < n; q++ {
		l = append(l, reads(q, q+1, ab, term.Copy(0, 0)))
	}
	return from(l, ends(n, "", ""))
}

// P22.2: a budget that is too small is told, or a verdict that holds all the same; one that is great enough never is too small.
func TestBudgets(t *testing.T) {
	for _, c := range []struct {
		what string
		a, b api.Desc
		kind int
	}{
		{"late", late(5), late(5), api.VYes},
		{"late, and later", late(4), late(5), api.VNo},
		{"circles", circle(5, at(4)), circle(4, at(3)), api.VNo},
		{"circles of one end", circle(6, func(q int) bool { return q%2 == 0 }), circle(4, func(q int) bool { return q%2 == 0 }), api.VYes},
		{"other outputs", circle(3, at(0), term.Const('x')), circle(3, at(0), term.Const('y')), api.VNo},
		{"two outputs", from([]api.Rule{one(0, 0, "a", "x"), one(0, 1, "a", "y"), one(1, 1, "a", "")}, ends(1, "", "")), circle(3, at(0)), api.VLeft},
		{"lines", lined(), lined(), api.VYes},
	} {
		enough, _ := equal.Enough(c.a, c.b)
		for n := -1; n < enough+2; n++ {
			v, e := equal.Equal(c.a, c.b, n)
			switch {
			case e == api.ErrBudget && n < enough:
				if fmt.Sprint(v) != fmt.Sprint(api.Verdict{}) {
					t.Errorf("%s, %d: %v", c.what, n, v)
				}
			case e != api.OK || v.Kind != c.kind:
				t.Fatalf("%s, %d: %v, %d", c.what, n, v, e)
			default:
				wantTrue(t, c.a, c.b, v)
			}
		}
		if _, e := equal.Equal(c.a, c.b, math.MinInt); e != api.ErrBudget {
			t.Errorf("%s: the least budget: %d", c.what, e)
		}
	}
	// Very many sets of states come; a small budget ends that.
	for _, n := range []int{14, 1000} {
		if v, e := equal.Equal(late(n), late(n), n*n+1); e != api.ErrBudget || v.Kind != 0 {
			t.Errorf("late: %v, %d", v, e)
		}
	}
	if v, e := equal.Equal(late(14), late(14), 1<<30+900); v.Kind != api.VYes || e != api.OK {
		t.Errorf("late: %v, %d", v, e)
	}
}

// wantSame asks whether two relate the same.
func wantSame(t *testing.T, what string, a, b api.Desc) {
	t.Helper()
	wantKind(t, what, a, b, api.VYes)
}

// P22.2, P22.3: machines that are of use.
func TestMachines(t *testing.T) {
	for what, d := range map[string]api.Desc{"lines": lines(), "Html": escape.Html(), "Url": escape.Url(), "Unurl": escape.Unurl(), "Encoder": codec.Encoder()} {
		simple, e := look.Eliminate(d, api.MaxStates)
		if e != api.OK {
			t.Fatalf("Eliminate %s: %d", what, e)
		}
		wantSame(t, what, d, simple)
		wantSame(t, what, d, d)
	}
	put := func(a, b api.Desc) api.Desc {
		d, e := chain.Chain(a, b, 9)
		if e != api.OK {
			t.Fatalf("Chain: %d", e)
		}
		return d
	}
	html, encoder := escape.Html(), codec.Encoder()
	wantSame(t, "three in either order", put(put(lines(), html), encoder), put(lines(), put(html, encoder)))
	wantSame(t, "html ahead of lines, and behind", put(html, put(html, encoder)), put(put(html, html), encoder))
	if v := wantKind(t, "html twice", put(html, html), html, api.VNo); !strings.ContainsAny(string(v.X), "&<>\"'") {
		t.Errorf("html twice: %v", v)
	}
	wantKind(t, "Url and Unurl", escape.Url(), escape.Unurl(), api.VNo)
	wantKind(t, "Unurl and nothing done", escape.Unurl(), desc.Same(api.Bytes), api.VNo)
	decoder := of(api.Bytes, api.Scalars, from([]api.Rule{reads(0, 0, set(0, 127), term.Copy(0, 0)), {Guards: [][]api.Span{set(0xc2, 0xdf), set(0x80, 0xbf)}, Eat: 2, Out: []api.Term{{Take: 21, Parts: []api.Part{{At: 1, Take: 6}, {Take: 5, Up: 6}}}}}}, api.Final{}))
	three, e := fuse.Fuse(decoder, html, encoder, 1)
	if e != api.OK {
		t.Fatalf("Fuse: %d", e)
	}
	other := put(put(decoder, html), encoder)
	wantSame(t, "fused, and put together", three, other)
	other.Rules = slices.DeleteFunc(other.Rules, func(r api.Rule) bool { return r.Guards[0][0].Lo == '<' })
	if v := wantKind(t, "without one of them", three, other, api.VNo); !strings.Contains(string(v.X), "<") {
		t.Errorf("without one of them: %v", v)
	}
}
