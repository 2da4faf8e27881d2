package sole_test

import (
	"fmt"
	"math"
	"math/rand"
	"slices"
	"strings"
	"testing"

	"umlaut/api"
	"umlaut/codec"
	"umlaut/desc"
	"umlaut/fuse"
	"umlaut/run"
	"umlaut/sole"
	"umlaut/span"
	"umlaut/term"
	"umlaut/word"
)

// set is the spans from each first number to the one behind it.
func set(ends ...int) []api.Span {
	var l []api.Span
	for i := 0; i < len(ends); i += 2 {
		l = append(l, api.Span{Lo: ends[i], Hi: ends[i+1]})
	}
	return l
}

// window is guards: of each of some texts, parted by blanks, the symbols.
func window(s string) [][]api.Span {
	var l [][]api.Span
	for _, text := range strings.Fields(s) {
		var g []api.Span
		for _, x := range text {
			g = append(g, api.Span{Lo: int(x), Hi: int(x)})
		}
		l = append(l, span.Norm(g))
	}
	return l
}

// rule is a rule of a state that reads a window.
func rule(from int, s string) api.Rule {
	return api.Rule{From: from, Guards: window(s), Eat: min(1, len(window(s)))}
}

// final is a final of a state.
func final(from int, s string) api.Final { return api.Final{From: from, Guards: window(s)} }

// from is a description from bytes to bytes.
func from(states int, rules []api.Rule, finals ...api.Final) api.Desc {
	return api.Desc{In: api.Bytes, Out: api.Bytes, States: states, Rules: rules, Finals: finals}
}

// brief is the beginning of what is told of descriptions.
func brief(l ...api.Desc) string {
	s := fmt.Sprint(l)
	return s[:min(len(s), 2000)]
}

// meet tells whether guards meet at each place that both have.
func meet(a, b [][]api.Span) bool {
	for i := range min(len(a), len(b)) {
		if !span.Meets(a[i], b[i]) {
			return false
		}
	}
	return true
}

// clash is what Clash is to answer, by the chapter's words.
func clash(d api.Desc) (int, int, bool) {
	n := len(d.Rules)
	for i := range n + len(d.Finals) {
		for k := i + 1; k < n+len(d.Finals); k++ {
			switch {
			case k < n:
				a, b := d.Rules[i], d.Rules[k]
				if a.From == b.From && meet(a.Guards, b.Guards) {
					return i, k, true
				}
			case i < n:
				a, b := d.Rules[i], d.Finals[k-n]
				if a.From == b.From && len(a.Guards) <= len(b.Guards) && meet(a.Guards, b.Guards) {
					return i, k, true
				}
			default:
				a, b := d.Finals[i-n], d.Finals[k-n]
				if a.From == b.From && len(a.Guards) == len(b.Guards) && meet(a.Guards, b.Guards) {
					return i, k, true
				}
			}
		}
	}
	return 0, 0, false
}

// want asks both calls of a description.
func want(t *testing.T, d api.Desc, i, k int, yes bool) {
	t.Helper()
	a, b, ok := sole.Clash(d)
	if a != i || b != k || ok != yes {
		t.Fatalf("Clash: %d, %d, %v, not %d, %d, %v: %s", a, b, ok, i, k, yes, brief(d))
	}
	is, e := sole.Sole(d)
	if well := desc.Check(d); e != well || is != (well == api.OK && !yes) {
		t.Fatalf("Sole: %v, %d: %s", is, e, brief(d))
	}
}

// wantModel asks both calls, and the model.
func wantModel(t *testing.T, d api.Desc) bool {
	t.Helper()
	i, k, yes := clash(d)
	want(t, d, i, k, yes)
	return yes
}

// P16.1, P16.2: the chapter's examples.
func TestExamples(t *testing.T) {
	want(t, from(1, []api.Rule{rule(0, "abc"), rule(0, "c d")}), 0, 1, true)
	want(t, from(1, []api.Rule{rule(0, "a b")}, final(0, "abc xb")), 0, 1, true)
	want(t, from(1, []api.Rule{rule(0, "a"), rule(0, "b")}), 0, 0, false)
	want(t, from(1, []api.Rule{rule(0, "c d")}, final(0, "c")), 0, 0, false)
}

// P16.1: what clashes, of each two kinds of options.
func TestKinds(t *testing.T) {
	for _, c := range []struct {
		a, b                     string
		rules, mixed, swap, ends bool // two rules; a rule and a final; a final and a rule; two finals
	}{
		{"a", "a", true, true, true, true},
		{"a", "b", false, false, false, false},
		{"ab", "bc", true, true, true, true},
		{"a", "a b", true, true, false, false},
		{"a b c", "a b d", false, false, false, false},
		{"a b c", "a b cd", true, true, true, true},
		{"a b c", "b b c", false, false, false, false},
		{"a b c d", "a b c d", true, true, true, true},
		{"a b c d", "a b c e", false, false, false, false},
		{"a b", "a b c d", true, true, false, false},
		{"a c", "a b c d", false, false, false, false},
		{"", "", true, true, true, true},
		{"", "a", true, true, false, false},
		{"", "a b c d", true, true, false, false},
	} {
		for _, x := range []struct {
			d    api.Desc
			want bool
		}{
			{from(1, []api.Rule{rule(0, c.a), rule(0, c.b)}), c.rules},
			{from(1, []api.Rule{rule(0, c.b), rule(0, c.a)}), c.rules},
			{from(1, []api.Rule{rule(0, c.a)}, final(0, c.b)), c.mixed},
			{from(1, []api.Rule{rule(0, c.b)}, final(0, c.a)), c.swap},
			{from(1, nil, final(0, c.a), final(0, c.b)), c.ends},
			{from(1, nil, final(0, c.b), final(0, c.a)), c.ends},
		} {
			k := 0
			if x.want {
				k = 1
			}
			want(t, x.d, 0, k, x.want)
		}
	}
}

// P16.1: of more pairs that one whose first number is least, and then its second one; of one state alone.
func TestFirst(t *testing.T) {
	want(t, from(2, []api.Rule{rule(0, "a"), rule(1, "a"), rule(1, "b"), rule(1, "ab"), rule(0, "a")}), 0, 4, true)
	want(t, from(2, []api.Rule{rule(0, "a"), rule(1, "a"), rule(1, "b"), rule(1, "ab"), rule(0, "b")}), 1, 3, true)
	want(t, from(2, []api.Rule{rule(1, "a"), rule(0, "b"), rule(0, "b"), rule(1, "c")}, final(1, "a c")), 0, 4, true)
	want(t, from(2, []api.Rule{rule(0, "a"), rule(1, "a")}, final(0, ""), final(1, ""), final(1, "")), 3, 4, true)
	want(t, from(3, []api.Rule{rule(0, "a"), rule(1, "a"), rule(2, "a")}, final(0, ""), final(1, ""), final(2, "")), 0, 0, false)
	want(t, from(1, []api.Rule{rule(0, "a b"), rule(0, "ab c"), rule(0, "b b"), rule(0, "ab b")}), 0, 3, true)
	want(t, desc.Empty(api.Scalars, api.Bytes), 0, 0, false)
	want(t, desc.Same(api.Scalars), 0, 0, false)
	want(t, api.Desc{}, 0, 0, false)
}

// P16.1: of descriptions that aren't well formed, too.
func TestAnyDescription(t *testing.T) {
	r := func(from int, guards ...[]api.Span) api.Rule { return api.Rule{From: from, Guards: guards} }
	for _, c := range []struct {
		what  string
		a, b  api.Rule
		clash bool
	}{
		{"spans in any order, over one another", r(0, set(9, 9, 1, 5, 3, 8)), r(0, set(20, 30, 7, 7)), true},
		{"a span that has nothing", r(0, set(9, 1)), r(0, set(0, 100)), false},
		{"no numbers at a place, beside others", r(0, set(1, 1), nil, set(1, 1)), r(0, set(1, 1), set(1, 1), set(1, 1)), false},
		{"no numbers at a place that the other one hasn't", r(0, set(1, 1), nil), r(0, set(1, 1)), true},
		{"no symbols of the sort", r(0, set(-5, -3)), r(0, set(-3, 0)), true},
		{"the least numbers", r(0, set(math.MinInt, -api.MaxNum)), r(0, set(-api.MaxNum, -api.MaxNum)), true},
		{"the greatest numbers", r(0, set(api.MaxNum, math.MaxInt)), r(0, set(api.MaxNum, api.MaxNum)), true},
		{"beyond the numbers", r(0, set(api.MaxNum+1, math.MaxInt)), r(0, set(api.MaxNum+1, math.MaxInt)), false},
		{"a state that is none", r(-7, set(1, 1)), r(-7, set(1, 1)), true},
		{"states that are none", r(math.MaxInt, set(1, 1)), r(math.MinInt, set(1, 1)), false},
		{"long windows", r(0, slices.Repeat([][]api.Span{set(1, 1)}, 9)...), r(0, slices.Repeat([][]api.Span{set(1, 2)}, 7)...), true},
		{"long windows, apart far behind", r(0, append(slices.Repeat([][]api.Span{set(1, 1)}, 6), set(2, 2))...), r(0, append(slices.Repeat([][]api.Span{set(1, 1)}, 6), set(3, 3))...), false},
	} {
		d := api.Desc{Rules: []api.Rule{c.a, c.b}}
		if yes := wantModel(t, d); yes != c.clash {
			t.Errorf("%s: %v", c.what, yes)
		}
	}
	// Finals with long windows, and rules among them.
	far := slices.Repeat([][]api.Span{set(1, 1)}, 6)
	want(t, api.Desc{Rules: []api.Rule{r(3, far...)}, Finals: []api.Final{{From: 3, Guards: far[:5]}, {From: 3, Guards: append(far, set(4, 4))}}}, 0, 2, true)
	want(t, api.Desc{Finals: []api.Final{{From: 3, Guards: far[:5]}, {From: 3, Guards: far}, {From: 3, Guards: far}}}, 1, 2, true)
}

// P16.2: what isn't well formed is neither.
func TestInvalid(t *testing.T) {
	for what, d := range map[string]api.Desc{
		"zero":                          {},
		"no sort":                       {In: 3, Out: api.Bytes, States: 1},
		"a state that is none":          from(1, []api.Rule{rule(1, "a")}),
		"an empty guard":                from(1, []api.Rule{{Guards: [][]api.Span{nil}, Eat: 1}}),
		"nothing eaten":                 from(1, []api.Rule{{Guards: window("a")}}),
		"five guards":                   from(1, nil, final(0, "a b c d e")),
		"not well formed, and clashing": from(1, []api.Rule{rule(0, "a"), rule(0, "a"), {Guards: window("a")}}),
		"a cycle":                       from(2, []api.Rule{{To: 1}, {From: 1}}),
		"an epsilon rule alone":         from(1, []api.Rule{{}}),
	} {
		if ok, e := sole.Sole(d); ok || e != api.ErrInvalid {
			t.Errorf("%s: %v, %d", what, ok, e)
		}
	}
	// An epsilon rule is sole, where it is alone.
	want(t, from(3, []api.Rule{{To: 1}, {From: 1, To: 2}}), 0, 0, false)
	want(t, from(2, []api.Rule{{To: 1}}, final(0, "a")), 0, 1, true)
}

// random is a description of few symbols, perhaps not well formed.
func random(r *rand.Rand, states, rules, finals, width int) api.Desc {
	d := api.Desc{In: api.Sort(1 + r.Intn(2)), Out: api.Sort(1 + r.Intn(2)), States: states}
	guards := func(n int) [][]api.Span {
		var l [][]api.Span
		for range n {
			var g []api.Span
			for range 1 + r.Intn(3) {
				x := r.Intn(12)
				g = append(g, api.Span{Lo: x, Hi: x + r.Intn(2)})
			}
			if r.Intn(4) > 0 {
				g = span.Norm(g)
			}
			l = append(l, g)
		}
		return l
	}
	for range rules {
		g := guards(min(1, width) + r.Intn(width))
		d.Rules = append(d.Rules, api.Rule{From: r.Intn(states), To: r.Intn(states), Guards: g, Eat: 1 + r.Intn(len(g))})
	}
	for range finals {
		d.Finals = append(d.Finals, api.Final{From: r.Intn(states), Guards: guards(r.Intn(width + 1))})
	}
	return d
}

// P16.1, P16.2: any descriptions.
func TestRandom(t *testing.T) {
	r := rand.New(rand.NewSource(16))
	n := 0
	for range 4000 {
		if wantModel(t, random(r, 1+r.Intn(4), r.Intn(6), r.Intn(5), 1+r.Intn(6))) {
			n++
		}
	}
	if n < 500 || n > 3500 {
		t.Errorf("%d of 4000 clash", n)
	}
	for range 20 {
		wantModel(t, random(r, 3, 150, 150, 4))
	}
}

// P16.1: what is handed in stays as it was.
func TestKept(t *testing.T) {
	d := random(rand.New(rand.NewSource(1)), 2, 20, 20, 5)
	text := fmt.Sprint(d)
	sole.Clash(d)
	sole.Sole(d)
	if fmt.Sprint(d) != text {
		t.Error("the description was changed")
	}
}

// many is so many rules and finals of one state, that read two symbols of which the second one is that of their number.
func many(rules, finals int) api.Desc {
	d := api.Desc{In: api.Scalars, Out: api.Scalars, States: 1}
	for i := range rules + finals {
		g := [][]api.Span{set(0, i), set(2*i, 2*i)}
		if i < rules {
			d.Rules = append(d.Rules, api.Rule{Guards: g, Eat: 1})
		} else {
			d.Finals = append(d.Finals, api.Final{Guards: g})
		}
	}
	return d
}

// P16.1, P16.2: as many options as may be, and more.
func TestMany(t *testing.T) {
	d := many(api.MaxRules, api.MaxRules)
	want(t, d, 0, 0, false)
	last := len(d.Finals) - 1
	d.Finals[last].Guards[1] = set(2*4001, 2*4001)
	want(t, d, 4001, api.MaxRules+last, true)
	d.Finals[last].Guards = d.Finals[last].Guards[:1]
	want(t, d, 0, 0, false)
	d = many(15000, 5000)
	want(t, d, 0, 0, false)
	d.Finals[0].Guards[1], d.Finals[4999].Guards[1] = set(2*14990, 2*14990), set(2*14980, 2*14980)
	want(t, d, 14980, 19999, true)
	d.Rules[77].Guards[1] = set(2*77, 2*77+2)
	want(t, d, 77, 78, true)
}

// P16.1: more options than may be, of windows of one symbol and of two.
func TestManyWidths(t *testing.T) {
	d := many(12000, 8000)
	for i := range d.Rules {
		if i%3 == 0 {
			d.Rules[i].Guards = [][]api.Span{set(2*i+1, 2*i+1)}
		} else {
			d.Rules[i].Guards[0] = set(0, 0)
		}
	}
	for i := range d.Finals {
		d.Finals[i].Guards[0] = set(0, 0)
	}
	want(t, d, 0, 0, false)
	d.Rules[11997].Guards[0] = set(0, 0)
	want(t, d, 1, 11997, true)
	d.Rules[11997].Guards[0] = set(1, 2*11994+1)
	want(t, d, 0, 11997, true)
	d.Rules[11997].Guards[0] = set(2*11995, 2*11995)
	d.Finals[7999].Guards = [][]api.Span{set(0, 0, 2*11995, 2*11995), set(0, 1)}
	want(t, d, 11997, 19999, true)
}

// P16.1, P16.2: guards of as many spans as may be, and as many symbols.
func TestCombs(t *testing.T) {
	d := api.Desc{In: api.Scalars, Out: api.Scalars, States: 1}
	for i := range 600 {
		var g []api.Span
		for k := range api.MaxSpans {
			g = append(g, api.Span{Lo: k*800 + i, Hi: k*800 + i})
		}
		d.Rules = append(d.Rules, api.Rule{Guards: [][]api.Span{word.Domain(api.Scalars), g}, Eat: 2})
	}
	want(t, d, 0, 0, false)
	d.Rules[5].Guards[1][30].Hi++
	want(t, d, 5, 6, true)
}

// consts is terms that write a text's symbols.
func consts(symbols string) []api.Term {
	var l []api.Term
	for _, x := range symbols {
		l = append(l, term.Const(x))
	}
	return l
}

// thin is a description without those of its options that clash with others.
func thin(d api.Desc) api.Desc {
	for {
		_, k, yes := clash(d)
		switch n := len(d.Rules); {
		case !yes:
			return d
		case k < n:
			d.Rules = slices.Delete(d.Rules, k, k+1)
		default:
			d.Finals = slices.Delete(d.Finals, k-n, k-n+1)
		}
	}
}

// randomSole is a sole description that is well formed, of windows of so many symbols at most, of a to d alone.
func randomSole(r *rand.Rand, in, out api.Sort, states, width int) api.Desc {
	d := api.Desc{In: in, Out: out, States: states, Start: r.Intn(states)}
	guards := func(n int) [][]api.Span {
		var l [][]api.Span
		for range n {
			g := set('a'+r.Intn(4), 'a'+r.Intn(4))
			if x := 'a' + r.Intn(4); len(span.Norm(g)) == 0 || r.Intn(3) == 0 {
				g = set(x, x)
			}
			l = append(l, g)
		}
		return l
	}
	write := func(n int) []api.Term {
		l := consts("abcdxy"[:r.Intn(4)])
		r.Shuffle(len(l), func(i, k int) { l[i], l[k] = l[k], l[i] })
		if n > 0 && r.Intn(2) == 0 {
			l = append(l, term.Copy(r.Intn(n), r.Intn(2)))
		}
		return l
	}
	for range states * (1 + r.Intn(5)) {
		g := guards(1 + r.Intn(width))
		d.Rules = append(d.Rules, api.Rule{From: r.Intn(states), To: r.Intn(states), Guards: g, Eat: 1 + r.Intn(len(g)), Out: write(len(g))})
	}
	for range states * 2 {
		g := guards(r.Intn(width))
		d.Finals = append(d.Finals, api.Final{From: r.Intn(states), Guards: g, Out: write(len(g))})
	}
	return thin(d)
}

// words is all words of up to n of some symbols.
func words(symbols string, n int) [][]rune {
	l := [][]rune{nil}
	for from := 0; n > 0; n-- {
		to := len(l)
		for _, w := range l[from:to] {
			for _, x := range symbols {
				l = append(l, append(slices.Clone(w), x))
			}
		}
		from = to
	}
	return l
}

// P16.3: a sole description relates each input to one output at most.
func TestOneOutput(t *testing.T) {
	r := rand.New(rand.NewSource(163))
	inputs := words("abcd", 4)
	related := 0
	for range 150 {
		d := randomSole(r, api.Bytes, api.Bytes, 1+r.Intn(3), 1+r.Intn(4))
		want(t, d, 0, 0, false)
		for _, x := range inputs {
			l, e := run.Outputs(d, x, 1)
			if e != api.OK {
				t.Fatalf("Outputs of %q: %d: %s", string(x), e, brief(d))
			}
			related += len(l)
		}
	}
	if related < 1000 {
		t.Errorf("only %d inputs are related to something", related)
	}
}

// P16.3: what is fused of sole ones, the second and third of which read one symbol at a time, is sole.
func TestFused(t *testing.T) {
	r := rand.New(rand.NewSource(1633))
	for _, a := range []api.Desc{codec.Strict(), codec.Repairer()} {
		fused(t, a, desc.Same(api.Scalars), codec.Encoder())
		for range 20 {
			fused(t, a, randomSole(r, api.Scalars, api.Scalars, 1+r.Intn(3), 1), codec.Encoder())
		}
	}
	for range 300 {
		fused(t, randomSole(r, api.Bytes, api.Scalars, 1+r.Intn(3), 1+r.Intn(4)),
			randomSole(r, api.Scalars, api.Scalars, 1+r.Intn(2), 1), randomSole(r, api.Scalars, api.Bytes, 1+r.Intn(2), 1))
	}
}

// fused fuses three sole ones.
func fused(t *testing.T, a, b, c api.Desc) {
	t.Helper()
	for _, d := range []api.Desc{a, b, c} {
		want(t, d, 0, 0, false)
	}
	d, e := fuse.Fuse(a, b, c, api.MaxStates)
	if e != api.OK {
		t.Fatalf("Fuse: %d: %s", e, brief(a, b, c))
	}
	want(t, d, 0, 0, false)
}
