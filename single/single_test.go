package single_test

import (
	"fmt"
	"math"
	"slices"
	"testing"

	"umlaut/api"
	"umlaut/codec"
	"umlaut/desc"
	"umlaut/run"
	"umlaut/single"
	"umlaut/span"
	"umlaut/term"
	"umlaut/word"
)

// set is the spans from each first number to the one behind it.
func set(ends ...int) []api.Span {
	var l []api.Span
	for i := 0; i < len(ends); i += 2 {
		l = append(l, api.Span{Lo: ends[i], Hi: ends[i+1]})
	}
	return l
}

// only is the set of a text's symbols.
func only(symbols string) []api.Span {
	var l []api.Span
	for _, x := range symbols {
		l = append(l, api.Span{Lo: int(x), Hi: int(x)})
	}
	return span.Norm(l)
}

// consts is terms that write a text's symbols.
func consts(symbols string) []api.Term {
	var l []api.Term
	for _, x := range symbols {
		l = append(l, term.Const(x))
	}
	return l
}

// reads is a rule that reads and eats a symbol of a set, and writes.
func reads(from, to int, guard []api.Span, out ...api.Term) api.Rule {
	return api.Rule{From: from, To: to, Guards: [][]api.Span{guard}, Eat: 1, Out: out}
}

// eats is a rule that reads one of some symbols, and writes a text.
func eats(from, to int, read, write string) api.Rule {
	return reads(from, to, only(read), consts(write)...)
}

// ends is a final that writes a text.
func ends(from int, write string) api.Final {
	return api.Final{From: from, Out: consts(write)}
}

// from is a description from bytes to bytes, of as many states as its rules and finals tell of.
func from(rules []api.Rule, finals ...api.Final) api.Desc {
	d := api.Desc{In: api.Bytes, Out: api.Bytes, States: 1, Rules: rules, Finals: finals}
	for _, r := range rules {
		d.States = max(d.States, r.From+1, r.To+1)
	}
	for _, f := range finals {
		d.States = max(d.States, f.From+1)
	}
	return d
}

// of is a description from one sort to another.
func of(in, out api.Sort, d api.Desc) api.Desc {
	d.In, d.Out = in, out
	return d
}

// brief is the beginning of what is told of descriptions.
func brief(l ...api.Desc) string {
	s := fmt.Sprint(l)
	return s[:min(len(s), 2000)]
}

// wantTrue asks whether what a verdict tells holds.
func wantTrue(t *testing.T, a, b api.Desc, v api.Verdict) {
	t.Helper()
	if v.Kind == api.VYes {
		if len(v.X)+len(v.Y)+len(v.Z) > 0 {
			t.Fatalf("VYes, and %v: %s", v, brief(a, b))
		}
		return
	}
	left, e := run.Relates(a, v.X, v.Y)
	right, f := run.Relates(b, v.X, v.Z)
	if v.Kind != api.VNo || !left || !right || e != api.OK || f != api.OK || slices.Equal(v.Y, v.Z) {
		t.Fatalf("%v: %v, %v, %d, %d: %s", v, left, right, e, f, brief(a, b))
	}
}

// agree asks Agree, both ways round, with the least budget.
func agree(t *testing.T, a, b api.Desc) api.Verdict {
	t.Helper()
	n := a.States * b.States
	v, e := single.Agree(a, b, n)
	back, f := single.Agree(b, a, n)
	if e != api.OK || f != api.OK || v.Kind != back.Kind {
		t.Fatalf("Agree: %v, %d, the other way round %v, %d: %s", v, e, back, f, brief(a, b))
	}
	wantTrue(t, a, b, v)
	wantTrue(t, b, a, back)
	if again, _ := single.Agree(a, b, math.MaxInt); fmt.Sprint(again) != fmt.Sprint(v) {
		t.Fatalf("Agree: %v, and then %v: %s", v, again, brief(a, b))
	}
	return v
}

// itself asks Single, and whether that is what Agree tells of two.
func itself(t *testing.T, d api.Desc) api.Verdict {
	t.Helper()
	want := agree(t, d, d)
	if want.Kind == api.VNo {
		want.Kind = api.VLeft
	}
	v, e := single.Single(d, d.States*d.States)
	if e != api.OK || fmt.Sprint(v) != fmt.Sprint(want) {
		t.Fatalf("Single: %v, %d, not %v: %s", v, e, want, brief(d))
	}
	return v
}

// wantYes asks for VYes.
func wantYes(t *testing.T, what string, a, b api.Desc) {
	t.Helper()
	if v := agree(t, a, b); v.Kind != api.VYes {
		t.Errorf("%s: %v", what, v)
	}
}

// wantNo asks for VNo, of one of some inputs, if some are told.
func wantNo(t *testing.T, what string, a, b api.Desc, inputs ...string) {
	t.Helper()
	v := agree(t, a, b)
	if v.Kind != api.VNo || len(inputs) > 0 && !slices.Contains(inputs, string(v.X)) {
		t.Errorf("%s: %v, not one of %q", what, v, inputs)
	}
}

// P21.1, P21.2: the chapter's examples.
func TestExamples(t *testing.T) {
	v := itself(t, from([]api.Rule{eats(0, 0, "a", "x"), eats(0, 0, "a", "y")}, ends(0, "")))
	if y, z := string(v.Y), string(v.Z); v.Kind != api.VLeft || string(v.X) != "a" || y+z != "xy" && y+z != "yx" {
		t.Errorf("Single: %v", v)
	}
	v = itself(t, from([]api.Rule{reads(0, 1, only("abc"), term.Copy(0, 0)), reads(0, 1, only("abc"), term.Const('b'))}, ends(1, "")))
	if v.Kind != api.VLeft || string(v.X) != "a" && string(v.X) != "c" {
		t.Errorf("Single: %v", v)
	}
	v = itself(t, from([]api.Rule{eats(0, 1, "a", "x"), eats(1, 3, "b", "yz"), eats(0, 2, "a", "xy"), eats(2, 3, "b", "z")}, ends(3, "")))
	if v.Kind != api.VYes {
		t.Errorf("Single: %v", v)
	}
}

// P21.1, P21.2: the errors, and which goes first.
func TestErrors(t *testing.T) {
	fine := desc.Same(api.Bytes)
	bad := func(d api.Desc) api.Desc {
		d.Start = -1
		return d
	}
	many := func(d api.Desc, n int) api.Desc {
		d.States = n
		return d
	}
	epsilon := from([]api.Rule{{To: 1}}, ends(1, ""))
	wide := from([]api.Rule{{Guards: [][]api.Span{only("a"), only("b")}, Eat: 2}}, ends(0, ""))
	held := from(nil, api.Final{Guards: [][]api.Span{only("a")}})
	for _, c := range []struct {
		what string
		a, b api.Desc
		want api.Errno
	}{
		{"not well formed", fine, bad(fine), api.ErrInvalid},
		{"neither is anything", api.Desc{}, api.Desc{}, api.ErrInvalid},
		{"a cycle of epsilon rules", fine, from([]api.Rule{{To: 1}, {From: 1}}), api.ErrInvalid},
		{"unlike sorts to be read", desc.Empty(1, 1), desc.Empty(2, 1), api.ErrInvalid},
		{"unlike sorts to be written", desc.Empty(1, 1), desc.Empty(1, 2), api.ErrInvalid},
		{"unlike sorts, and lookahead", codec.Strict(), codec.Encoder(), api.ErrInvalid},
		{"epsilon rules, and not well formed", epsilon, bad(fine), api.ErrInvalid},
		{"epsilon rules", epsilon, fine, api.ErrArg},
		{"more than one symbol", wide, fine, api.ErrArg},
		{"a symbol left", held, fine, api.ErrArg},
		{"lookahead", codec.Strict(), codec.Repairer(), api.ErrArg},
	} {
		for _, n := range []int{math.MaxInt, 1, 0, -1, math.MinInt} {
			for _, l := range [][2]api.Desc{{c.a, c.b}, {c.b, c.a}} {
				if v, e := single.Agree(l[0], l[1], n); fmt.Sprint(v) != fmt.Sprint(api.Verdict{}) || e != c.want {
					t.Errorf("%s: Agree, %d: %v, %d, not %d", c.what, n, v, e, c.want)
				}
			}
		}
	}
	for _, c := range []struct {
		d    api.Desc
		n    int
		want api.Errno
	}{
		{bad(fine), math.MaxInt, api.ErrInvalid}, {api.Desc{}, 0, api.ErrInvalid}, {bad(epsilon), 0, api.ErrInvalid},
		{epsilon, math.MaxInt, api.ErrArg}, {wide, 0, api.ErrArg}, {held, -1, api.ErrArg}, {codec.Repairer(), 9, api.ErrArg},
		{fine, 0, api.ErrBudget}, {fine, math.MinInt, api.ErrBudget}, {many(fine, 7), 48, api.ErrBudget}, {many(fine, 1024), 1<<20 - 1, api.ErrBudget},
	} {
		if v, e := single.Single(c.d, c.n); fmt.Sprint(v) != fmt.Sprint(api.Verdict{}) || e != c.want {
			t.Errorf("Single, %d: %v, %d, not %d", c.n, v, e, c.want)
		}
	}
	// All states count, and whether they are told apart soon counts for nothing.
	for _, c := range [][2]int{{1, 1}, {3, 5}, {1024, 2}} {
		a, b := many(fine, c[0]), many(from(nil, ends(0, "x")), c[1])
		if v, e := single.Agree(a, b, c[0]*c[1]-1); fmt.Sprint(v) != fmt.Sprint(api.Verdict{}) || e != api.ErrBudget {
			t.Errorf("Agree: %v, %d", v, e)
		}
		wantNo(t, "just enough", a, b, "")
	}
	itself(t, many(fine, 1024))
}

// P21.1: what both write of one symbol.
func TestLetters(t *testing.T) {
	all := set(0, 255)
	low := api.Term{Take: 21, Parts: []api.Part{{Take: 6}}}
	both := api.Term{Take: 21, Parts: []api.Part{{Take: 4}, {Drop: 4, Take: 4, Up: 4}}}
	outer := api.Term{Take: 8, Parts: []api.Part{{Take: 21}}}
	high := api.Term{Base: 1, Drop: 1, Take: 6, Up: 1, Parts: []api.Part{{Take: 21}}}
	for _, c := range []struct {
		what       string
		a, b       api.Term
		here, also []api.Span
		apart      string // the symbols of which they are unlike
	}{
		{"the same", both, both, all, all, ""},
		{"one symbol, copied", term.Copy(0, 0), term.Const('q'), only("q"), all, ""},
		{"one symbol in common, copied", term.Copy(0, 0), term.Const('q'), only("apq"), only("qxy"), ""},
		{"copied, and one symbol", term.Copy(0, 0), term.Const('q'), only("pq"), only("pqs"), "p"},
		{"moved", term.Copy(0, 1), term.Copy(0, 0), set(0, 254), only("z"), "z"},
		{"bits that are all there is", low, term.Copy(0, 0), set(0, 63), all, ""},
		{"bits that are not all", low, term.Copy(0, 0), set(0, 64), set(64, 255), "@"},
		{"put together of two halves", both, term.Copy(0, 0), all, all, ""},
		{"an outer part of all", outer, both, all, all, ""},
		{"an outer part of some", high, term.Copy(0, 0), only("acegikmoqs"), all, ""},
		{"an outer part of some, and one more", high, term.Copy(0, 0), only("acegikmoqr"), only("klmnopqrstu"), "r"},
	} {
		a, b := from([]api.Rule{reads(0, 1, c.here, c.a)}, ends(1, "")), from([]api.Rule{reads(0, 1, c.also, c.b)}, ends(1, ""))
		if c.apart == "" {
			wantYes(t, c.what, a, b)
		} else {
			wantNo(t, c.what, a, b, c.apart)
		}
		// Beside others, and where the one is ahead by one symbol that is alike.
		a, b = from([]api.Rule{eats(0, 1, "k", "xyz"), reads(1, 2, c.here, c.a)}, ends(2, "")), from([]api.Rule{eats(0, 1, "k", "xy"), reads(1, 2, c.also, term.Const('z'), c.b)}, ends(2, ""))
		if c.apart == "" {
			wantYes(t, c.what, a, b)
		} else {
			wantNo(t, c.what, a, b, "k"+c.apart)
		}
	}
	// Of scalars, and with one that is unlike.
	smile := set(0x1f600, 0x1f6ff)
	bits, moved := api.Term{Take: 8, Parts: []api.Part{{Take: 21}}}, api.Term{Take: 21, Sum: -0x1f600, Parts: []api.Part{{Take: 21}}}
	x, y := of(2, 1, from([]api.Rule{reads(0, 0, smile, bits)}, ends(0, ""))), of(2, 1, from([]api.Rule{reads(0, 0, smile, moved)}, ends(0, "")))
	wantYes(t, "bits of scalars, and scalars moved", x, y)
	x.Rules[0].Guards[0] = word.Domain(api.Scalars)
	wantYes(t, "bits of more scalars", x, y)
	y.Rules = append(y.Rules, reads(0, 0, set(0x5500, 0x5500), term.Const(1)))
	wantNo(t, "one scalar unlike", x, y, "\u5500")
	d := desc.Same(api.Scalars)
	itself(t, d)
	d.Rules = append(d.Rules, reads(0, 0, only("x\U0010ffff"), term.Const('x')))
	if v := itself(t, d); v.Kind != api.VLeft || string(v.X) != "\U0010ffff" {
		t.Errorf("Single: %v", v)
	}
}

// P21.1: what one of the two writes ahead of the other one.
func TestLeads(t *testing.T) {
	late := from([]api.Rule{eats(0, 1, "a", ""), eats(1, 2, "b", "uv"), eats(2, 3, "c", "wxyz")}, ends(3, ""))
	early := from([]api.Rule{eats(0, 1, "a", "uvw"), eats(1, 2, "b", "xy"), eats(2, 3, "c", "z")}, ends(3, ""))
	swap := from([]api.Rule{eats(0, 1, "a", "u"), eats(1, 2, "b", ""), eats(2, 3, "c", "")}, ends(3, "vwxyz"))
	for i, a := range []api.Desc{late, early, swap} {
		for k, b := range []api.Desc{late, early, swap} {
			wantYes(t, fmt.Sprint(i, k), a, b)
		}
		for _, other := range []string{"", "uvwxy", "uvwxyzz", "uvwxyy", "zvwxyz"} {
			wantNo(t, fmt.Sprint(i, other), a, from([]api.Rule{eats(0, 1, "a", other), eats(1, 2, "b", ""), eats(2, 3, "c", "")}, ends(3, "")), "abc")
			wantNo(t, fmt.Sprint(i, other), a, from([]api.Rule{eats(0, 1, "a", ""), eats(1, 2, "b", ""), eats(2, 3, "c", "")}, ends(3, other)), "abc")
		}
	}
	// What hangs on what was read can't be written later, but of one symbol, or of some of which it is one.
	copies := func(symbols string) api.Desc {
		return from([]api.Rule{reads(0, 1, only(symbols), term.Copy(0, 0), term.Const('q'))}, ends(1, ""))
	}
	then := func(write, rest string) api.Desc {
		return from([]api.Rule{eats(0, 1, "abcd", write)}, ends(1, rest))
	}
	wantYes(t, "one symbol", copies("b"), then("", "bq"))
	wantNo(t, "one symbol, another one", copies("b"), then("", "aq"), "b")
	wantNo(t, "two symbols, the least one", copies("bc"), then("", "bq"), "c")
	wantNo(t, "two symbols, the other one", copies("bc"), then("", "cq"), "b")
	wantNo(t, "two symbols, neither", copies("bc"), then("", "aq"), "b", "c")
	wantNo(t, "two symbols, nothing", copies("bc"), then("", ""), "b", "c")
	wantNo(t, "many symbols", copies("abcd"), then("b", "q"), "a", "c", "d")
	pairs := api.Term{Drop: 1, Take: 8, Parts: []api.Part{{Take: 21}}}
	halves := from([]api.Rule{reads(0, 1, only("bc"), pairs)}, ends(1, ""))
	wantYes(t, "two symbols of one value", halves, then("", "1"))
	halves.Rules[0].Guards[0] = only("abc")
	wantNo(t, "two values", halves, then("", "1"), "a")
	// What was read long ago, and what was alike since.
	long := from([]api.Rule{reads(0, 1, only("ab"), term.Copy(0, 0), term.Const('p')), eats(1, 1, "-", ""), eats(1, 2, "!", "")}, ends(2, ""))
	wantYes(t, "itself", long, long)
	wantNo(t, "written at last", long, from([]api.Rule{eats(0, 1, "ab", ""), eats(1, 1, "-", ""), eats(1, 2, "!", "ap")}, ends(2, "")), "b!")
	wantYes(t, "written as it is, the rest later", long, from([]api.Rule{reads(0, 1, only("ab"), term.Copy(0, 0)), eats(1, 1, "-", ""), eats(1, 2, "!", "p")}, ends(2, "")))
}

// P21.1: two leads at one pair of states.
func TestUnlikeLeads(t *testing.T) {
	writes := func(a, b, end string) api.Desc {
		return from([]api.Rule{eats(0, 0, "a", a), eats(0, 0, "b", b), eats(0, 1, "!", end)}, ends(1, ""))
	}
	wantYes(t, "alike", writes("x", "xx", ""), writes("x", "xx", ""))
	wantNo(t, "ever more", writes("x", "x", ""), writes("", "x", ""))
	wantNo(t, "ever more, at first too few", writes("x", "", ""), writes("", "", "x"), "!", "aa!")
	wantYes(t, "a period", from([]api.Rule{eats(0, 1, "a", "xyx"), eats(1, 1, "a", "yx"), eats(1, 2, "!", "")}, ends(2, "")), from([]api.Rule{eats(0, 1, "a", "x"), eats(1, 1, "a", "yx"), eats(1, 2, "!", "yx")}, ends(2, "")))
	wantNo(t, "no period", from([]api.Rule{eats(0, 1, "a", "xyx"), eats(1, 1, "a", "yy"), eats(1, 2, "!", "")}, ends(2, "")), from([]api.Rule{eats(0, 1, "a", "x"), eats(1, 1, "a", "yx"), eats(1, 2, "!", "yx")}, ends(2, "")))
	// As long, but unlike, by two ways to the same pair.
	one := from([]api.Rule{eats(0, 1, "a", "xy"), eats(0, 1, "b", "yx"), eats(1, 2, "c", "")}, ends(2, ""))
	wantNo(t, "the second way", one, from([]api.Rule{eats(0, 1, "ab", ""), eats(1, 2, "c", "xy")}, ends(2, "")), "bc")
	wantNo(t, "the first way", one, from([]api.Rule{eats(0, 1, "ab", ""), eats(1, 2, "c", "yx")}, ends(2, "")), "ac")
	// By ways of unlike length.
	two := from([]api.Rule{eats(0, 1, "a", "xx"), eats(0, 3, "b", "x"), eats(3, 1, "b", "x"), eats(1, 2, "c", "")}, ends(2, ""))
	wantYes(t, "two ways", two, from([]api.Rule{eats(0, 1, "a", ""), eats(0, 3, "b", ""), eats(3, 1, "b", ""), eats(1, 2, "c", "xx")}, ends(2, "")))
	two.Rules[2].Out = consts("y")
	wantNo(t, "two ways, one unlike", two, from([]api.Rule{eats(0, 1, "a", ""), eats(0, 3, "b", ""), eats(3, 1, "b", ""), eats(1, 2, "c", "xx")}, ends(2, "")), "bbc")
	two.Rules[2].Out = consts("xx")
	wantNo(t, "two ways, one longer", two, from([]api.Rule{eats(0, 1, "a", ""), eats(0, 3, "b", ""), eats(3, 1, "b", ""), eats(1, 2, "c", "xx")}, ends(2, "")), "bbc")
	// By ways of more steps, that write the same at last.
	for _, c := range []struct {
		first, second, third string
		yes                  bool
	}{{"xy", "z", "w", true}, {"x", "yz", "w", true}, {"", "", "xyzw", true}, {"x", "", "yzw", true}, {"yy", "z", "w", false}, {"xx", "z", "w", false}, {"x", "zz", "w", false}, {"", "x", "yyw", false}, {"", "w", "xyz", false}} {
		four := from([]api.Rule{eats(0, 1, "a", "x"), eats(1, 2, "a", "y"), eats(2, 3, "a", "zw"), eats(0, 4, "b", c.first), eats(4, 5, "b", c.second), eats(5, 3, "b", c.third), eats(3, 6, "c", "")}, ends(6, ""))
		last := from([]api.Rule{eats(0, 1, "ab", ""), eats(1, 2, "ab", ""), eats(2, 3, "ab", ""), eats(3, 4, "c", "xyzw")}, ends(4, ""))
		if c.yes {
			wantYes(t, fmt.Sprint(c), four, last)
		} else {
			wantNo(t, fmt.Sprint(c), four, last, "bbbc")
		}
	}
	// The one is ahead by one way, the other one by the other.
	three := from([]api.Rule{eats(0, 1, "a", "x"), eats(0, 1, "b", ""), eats(1, 2, "c", "y")}, ends(2, ""))
	wantNo(t, "ahead and behind", three, from([]api.Rule{eats(0, 1, "a", ""), eats(0, 1, "b", "x"), eats(1, 2, "c", "xy")}, ends(2, "")), "bc")
	wantNo(t, "behind and ahead", three, from([]api.Rule{eats(0, 1, "a", ""), eats(0, 1, "b", "x"), eats(1, 2, "c", "y")}, ends(2, "")), "ac", "bc")
}

// P21.1: what never comes to an end, or is never come to, by both, tells nothing apart.
func TestNoUse(t *testing.T) {
	a := from([]api.Rule{eats(0, 1, "a", "x"), eats(0, 2, "b", "x"), eats(3, 1, "a", "x"), eats(1, 1, "c", ""), eats(2, 2, "c", "xx")}, ends(1, ""), ends(3, "x"))
	b := from([]api.Rule{eats(0, 1, "a", "x"), eats(0, 2, "b", "y"), eats(3, 1, "a", "y"), eats(1, 1, "d", "y"), eats(2, 2, "c", "y")}, ends(1, ""), ends(3, "y"))
	wantYes(t, "no use", a, b)
	wantYes(t, "nothing", a, desc.Empty(1, 1))
	wantYes(t, "nothing", desc.Empty(1, 1), desc.Empty(1, 1))
	// Both end behind b, but not behind the same.
	a.Rules, b.Rules = append(a.Rules, eats(2, 3, "e", "z")), append(b.Rules, eats(2, 3, "f", ""))
	wantYes(t, "no use", a, b)
	b.Rules = append(b.Rules, eats(2, 3, "e", ""))
	wantNo(t, "of use", a, b, "be")
	// Rules that read nothing in common.
	wantYes(t, "unlike symbols", from([]api.Rule{eats(0, 0, "ace", "x")}, ends(0, "")), from([]api.Rule{eats(0, 0, "bdf", "y")}, ends(0, "")))
	wantNo(t, "one symbol alike", from([]api.Rule{eats(0, 0, "acef", "x")}, ends(0, "")), from([]api.Rule{eats(0, 0, "bdf", "y")}, ends(0, "")), "f")
}

// P21.1: what finals write.
func TestEnds(t *testing.T) {
	with := func(write string, finals ...string) api.Desc {
		d := from([]api.Rule{eats(0, 1, "a", write)})
		for _, f := range finals {
			d.Finals = append(d.Finals, ends(1, f))
		}
		return d
	}
	for _, c := range []struct {
		what string
		a, b api.Desc
		yes  bool
	}{
		{"nothing", with(""), with("x", "y"), true},
		{"the same", with("", "xy"), with("", "xy"), true},
		{"some written ahead", with("x", "y"), with("", "xy"), true},
		{"all written ahead", with("xy", ""), with("", "xy"), true},
		{"more", with("xy", ""), with("", "xyz"), false},
		{"fewer", with("xy", ""), with("", "x"), false},
		{"others", with("xy", ""), with("", "xz"), false},
		{"others at last", with("x", "y"), with("", "xz"), false},
		{"twice", with("x", "y", "y"), with("", "xy", "xy"), true},
		{"the last one of the left ones", with("x", "y", "y", "z"), with("", "xy", "xy"), false},
		{"the last one of the right ones", with("x", "y", "y"), with("", "xy", "xy", "xy", "x"), false},
		{"as many, none of them alike", with("", "x", "y"), with("", "y", "x"), false},
	} {
		if c.yes {
			wantYes(t, c.what, c.a, c.b)
		} else {
			wantNo(t, c.what, c.a, c.b, "a")
		}
	}
	v := itself(t, from(nil, ends(0, "x"), ends(0, "y")))
	if v.Kind != api.VLeft || len(v.X) > 0 || string(v.Y)+string(v.Z) != "xy" && string(v.Y)+string(v.Z) != "yx" {
		t.Errorf("Single: %v", v)
	}
}
