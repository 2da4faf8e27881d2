package table_test

import (
	"fmt"
	"math"
	"math/rand"
	"slices"
	"strings"
	"testing"

	"umlaut/api"
	"umlaut/codec"
	"umlaut/desc"
	"umlaut/fuse"
	"umlaut/run"
	"umlaut/sole"
	"umlaut/span"
	"umlaut/table"
	"umlaut/term"
	"umlaut/word"
)

// set is the spans from each first number to the one behind it.
func set(ends ...int) []api.Span {
	var l []api.Span
	for i := 0; i < len(ends); i += 2 {
		l = append(l, api.Span{Lo: ends[i], Hi: ends[i+1]})
	}
	return l
}

// window is guards: of each of some texts, parted by blanks, the symbols; of ^ and symbols all bytes but these.
func window(s string) [][]api.Span {
	var l [][]api.Span
	for _, text := range strings.Fields(s) {
		letters, not := strings.CutPrefix(text, "^")
		var g []api.Span
		for _, x := range letters {
			g = append(g, api.Span{Lo: int(x), Hi: int(x)})
		}
		if g = span.Norm(g); not {
			g = span.Minus(set(0, 255), g)
		}
		l = append(l, g)
	}
	return l
}

// consts is terms that write a text's symbols.
func consts(symbols string) []api.Term {
	var l []api.Term
	for _, x := range symbols {
		l = append(l, term.Const(x))
	}
	return l
}

// rule is a rule that reads a window, eats so much of it, and writes a text.
func rule(from, to int, s string, eat int, write string) api.Rule {
	return api.Rule{From: from, To: to, Guards: window(s), Eat: eat, Out: consts(write)}
}

// final is a final that reads a window and writes a text.
func final(from int, s, write string) api.Final {
	return api.Final{From: from, Guards: window(s), Out: consts(write)}
}

// from is a description from bytes to bytes.
func from(states int, rules []api.Rule, finals ...api.Final) api.Desc {
	return api.Desc{In: api.Bytes, Out: api.Bytes, States: states, Rules: rules, Finals: finals}
}

// brief is the beginning of what is told of something.
func brief(l ...any) string {
	s := fmt.Sprint(l...)
	return s[:min(len(s), 2000)]
}

// wantError asks of a description that has no table.
func wantError(t *testing.T, what string, d api.Desc, want api.Errno) {
	t.Helper()
	if x, e := table.Compile(d); e != want || text(x) != text(api.Table{}) {
		t.Errorf("%s: %d, not %d: %s", what, e, want, brief(x))
	}
}

// wantTable asks of a description that has a table, as the model has it.
func wantTable(t *testing.T, d api.Desc) api.Table {
	t.Helper()
	want, ok := compiled(d)
	if !ok {
		wantError(t, "too many nodes", d, api.ErrLong)
		return api.Table{}
	}
	got, e := table.Compile(d)
	if e != api.OK || text(got) != text(want) {
		t.Fatalf("Compile: %d, %s, not %s: %s", e, brief(got), brief(want), brief(d))
	}
	if !table.Check(got) || !right(got) {
		t.Fatalf("Check: %v, %v: %s", table.Check(got), right(got), brief(got))
	}
	if n := table.Most(got); n > desc.Longest(d) {
		t.Fatalf("Most: %d, of %s", n, brief(d))
	}
	return got
}

// wantDriven asks whether a table tells what a description relates an input to, and whether it is related to something.
func wantDriven(t *testing.T, d api.Desc, x api.Table, input []rune) bool {
	t.Helper()
	l, e := run.Outputs(d, input, 1)
	y, ok := driven(x, input)
	if e != api.OK || ok != (len(l) == 1) || ok && !slices.Equal(y, l[0]) {
		t.Fatalf("%x: %x, %v, not %x, %d: %s", input, y, ok, l, e, brief(d))
	}
	return ok
}

// words is all words of up to n of some symbols.
func words(symbols string, n int) [][]rune {
	l := [][]rune{nil}
	for from := 0; n > 0; n-- {
		to := len(l)
		for _, w := range l[from:to] {
			for _, x := range symbols {
				l = append(l, append(slices.Clone(w), x))
			}
		}
		from = to
	}
	return l
}

// held is the chapter's example.
func held() api.Desc {
	return from(1, []api.Rule{rule(0, 0, "a b", 1, "x"), rule(0, 0, "a ^b", 2, "")}, final(0, "", ""))
}

// P17.1: the chapter's example.
func TestExample(t *testing.T) {
	x := wantTable(t, held())
	want := api.Table{
		Nodes: []api.Node{{Held: 0, Next: []int{-1, 1, -1}, End: 0}, {Held: 1, Next: []int{-2, -2, -3}, End: -1}},
		Acts:  []api.Act{{Eat: 2}, {Eat: 1, Out: consts("x")}},
		Ends:  [][]api.Term{nil},
	}
	want.Class['a'], want.Class['b'] = 1, 2
	if text(x) != text(want) {
		t.Errorf("Compile: %v", x)
	}
	if table.Most(x) != 1 {
		t.Errorf("Most: %d", table.Most(x))
	}
	for _, w := range words("abc", 5) {
		wantDriven(t, held(), x, w)
	}
}

// P17.1: nodes, acts and ends are numbered as they come, whatever the order of states, rules and finals.
func TestNumbers(t *testing.T) {
	d := from(4, []api.Rule{
		rule(2, 3, "c", 1, "unread"), // nothing leads to its state
		rule(3, 1, "a b", 1, "p"),
		rule(1, 1, "ab", 1, "q"),
		rule(3, 3, "a c", 2, "r"),
		rule(3, 0, "b", 1, "s"),
	}, final(1, "c", "u"), final(3, "a", "v"), final(0, "ab", "w"), final(3, "", "y"), final(1, "", "z"))
	d.Start = 3
	x := wantTable(t, d)
	// Classes: all others; a; b; c. Nodes: state 3; 3 and a; 0; 1; 0 and a; 0 and b; 1 and c.
	want := api.Table{
		Nodes: []api.Node{
			{Held: 0, Next: []int{-1, 1, -2, -1}, End: 0},
			{Held: 1, Next: []int{-1, -1, -3, -4}, End: 1},
			{Held: 0, Next: []int{-1, 4, 5, -1}, End: -1},
			{Held: 0, Next: []int{-1, -5, -5, 6}, End: 2},
			{Held: 1, Next: []int{-1, -1, -1, -1}, End: 3},
			{Held: 1, Next: []int{-1, -1, -1, -1}, End: 3},
			{Held: 1, Next: []int{-1, -1, -1, -1}, End: 4},
		},
		Acts: []api.Act{{Eat: 1, To: 2, Out: consts("s")}, {Eat: 1, To: 3, Out: consts("p")}, {Eat: 2, To: 0, Out: consts("r")}, {Eat: 1, To: 3, Out: consts("q")}},
		Ends: [][]api.Term{consts("y"), consts("v"), consts("z"), consts("w"), consts("u")},
	}
	want.Class['a'], want.Class['b'], want.Class['c'] = 1, 2, 3
	if text(x) != text(want) {
		t.Errorf("Compile: %v, not %v", x, want)
	}
	for _, w := range words("abcd", 5) {
		wantDriven(t, d, x, w)
	}
}

// P17.1: whole windows: of a final as many classes are held as may be, and a rule has its act one class earlier.
func TestWholeWindows(t *testing.T) {
	d := from(1, []api.Rule{rule(0, 0, "a b c d", 3, "x")}, final(0, "", ""), final(0, "a b c c", "y"), final(0, "a b c d", "never"))
	wantError(t, "a rule and a final of one window", d, api.ErrClash)
	d.Finals = d.Finals[:2]
	d.Finals[1].Out = []api.Term{term.Copy(3, 1), term.Copy(0, 0)}
	x := wantTable(t, d)
	if last := x.Nodes[len(x.Nodes)-1]; last.Held != 4 || fmt.Sprint(last.Next) != "[-1 -1 -1 -1 -1]" || last.End != 1 {
		t.Errorf("a whole window: %v", last)
	}
	for _, w := range words("abcd", 6) {
		wantDriven(t, d, x, w)
	}
	for s, want := range map[string]string{"abcc": "da", "abcd": "", "abccc": "", "": ""} {
		y, ok := driven(x, []rune(s))
		if string(y) != want || ok != (s == "abcc" || s == "") {
			t.Errorf("%s: %q, %v", s, string(y), ok)
		}
	}
}

// P17.1: descriptions of very little, and of very many classes.
func TestLittle(t *testing.T) {
	x := wantTable(t, desc.Empty(api.Bytes, api.Bytes))
	if text(x) != text(api.Table{Nodes: []api.Node{{Next: []int{-1}, End: -1}}}) {
		t.Errorf("Compile of nothing: %v", x)
	}
	x = wantTable(t, desc.Same(api.Bytes))
	if text(x) != text(api.Table{Nodes: []api.Node{{Next: []int{-2}}}, Acts: []api.Act{{Eat: 1, Out: []api.Term{term.Copy(0, 0)}}}, Ends: [][]api.Term{nil}}) {
		t.Errorf("Compile of what changes nothing: %v", x)
	}
	var all []api.Rule
	for x := range 256 {
		all = append(all, api.Rule{Guards: [][]api.Span{set(x, x)}, Eat: 1, Out: consts(string(rune(255 - x)))})
	}
	x = wantTable(t, from(1, all, final(0, "", "")))
	if len(x.Nodes[0].Next) != 256 || len(x.Acts) != 256 || x.Class[255] != 255 || x.Nodes[0].Next[255] != -257 {
		t.Errorf("Compile of 256 classes: %s", brief(x))
	}
	// Guards of states that don't come tell bytes apart, too.
	x = wantTable(t, from(2, []api.Rule{rule(1, 1, "a", 1, "")}, final(0, "", "")))
	if len(x.Nodes) != 1 || fmt.Sprint(x.Nodes[0].Next) != "[-1 -1]" || len(x.Acts) != 0 {
		t.Errorf("Compile of a state that doesn't come: %s", brief(x))
	}
}

// P17.1: what may not be, in the order of the errors.
func TestErrors(t *testing.T) {
	twice := []api.Rule{rule(0, 0, "a", 1, ""), rule(0, 0, "ab", 1, "")}
	epsilon := api.Rule{To: 1}
	for what, d := range map[string]api.Desc{
		"zero":                               {},
		"a state that is none":               from(1, []api.Rule{rule(0, 1, "a", 1, "")}),
		"nothing eaten":                      from(1, []api.Rule{rule(0, 0, "a", 0, "")}),
		"a cycle":                            from(2, []api.Rule{epsilon, {From: 1}}),
		"from scalars":                       desc.Same(api.Scalars),
		"to scalars":                         codec.Strict(),
		"from scalars to bytes":              codec.Encoder(),
		"not well formed, clashing, epsilon": from(2, append([]api.Rule{epsilon, rule(0, 0, "a", 0, "")}, twice...)),
		"to scalars, clashing, epsilon":      {In: api.Bytes, Out: api.Scalars, States: 2, Rules: append([]api.Rule{epsilon}, twice...)},
	} {
		wantError(t, what, d, api.ErrInvalid)
	}
	wantError(t, "an epsilon rule", from(2, []api.Rule{epsilon}), api.ErrArg)
	wantError(t, "an epsilon rule, and a clash", from(2, append([]api.Rule{epsilon}, twice...)), api.ErrArg)
	wantError(t, "two rules", from(1, twice), api.ErrClash)
	wantError(t, "two rules of a state that doesn't come", from(2, []api.Rule{rule(1, 1, "a", 1, ""), rule(1, 1, "a b", 1, "")}), api.ErrClash)
	wantError(t, "two finals", from(1, nil, final(0, "", "x"), final(0, "", "x")), api.ErrClash)
	wantError(t, "a rule and a final", from(1, twice[:1], final(0, "a b", "")), api.ErrClash)
	long := nodes(39, 104)
	long.Rules[0].To = 2
	wantError(t, "a clash, and too many nodes", from(3, append(long.Rules, twice...), long.Finals...), api.ErrClash)
}

// nodes is a description whose table has 1 + a + a * b nodes: of a first bytes, and b bytes behind them.
func nodes(a, b int) api.Desc {
	d := from(3, []api.Rule{{Guards: [][]api.Span{set(0, a-1), set(0, b-1), set(0, 0)}, Eat: 3}})
	for x := range 256 { // what tells all bytes apart, of a state that doesn't come
		d.Finals = append(d.Finals, api.Final{From: 1, Guards: [][]api.Span{set(x, x)}})
	}
	return d
}

// P17.1: as many nodes as may be, and one more.
func TestMostNodes(t *testing.T) {
	x, e := table.Compile(nodes(39, 104))
	if e != api.OK || len(x.Nodes) != api.MaxNodes || !table.Check(x) {
		t.Errorf("%d nodes, %d", len(x.Nodes), e)
	}
	// The rule leads to a state of its own: one node more.
	d := nodes(39, 104)
	d.Rules[0].To = 2
	wantError(t, "a node too many", d, api.ErrLong)
	wantError(t, "very many nodes", nodes(256, 256), api.ErrLong)
	d = nodes(256, 256)
	d.Rules[0].Guards = append(d.Rules[0].Guards, set(0, 255))
	wantError(t, "windows of four", d, api.ErrLong)
}

// P17.1: as many rules as may be, of one state, and of many.
func TestMostRules(t *testing.T) {
	for _, states := range []int{1, api.MaxStates} {
		d := from(states, nil)
		for i := range api.MaxRules {
			g := [][]api.Span{set(i/16%16, i/16%16), set(i%16, i%16), set(i/256, i/256)}
			d.Rules = append(d.Rules, api.Rule{From: i % states, To: (i + 1) % states, Guards: g, Eat: 3, Out: consts("x")})
		}
		x, e := table.Compile(d)
		if e != api.OK || !table.Check(x) || table.Most(x) != 1 || states == 1 && len(x.Acts) != api.MaxRules {
			t.Errorf("%d states: %d nodes, %d acts, %d", states, len(x.Nodes), len(x.Acts), e)
		}
		d.Rules[4095].Guards[2] = set(14, 15)
		if states == 1 {
			wantError(t, "a clash of the last rules", d, api.ErrClash)
		}
	}
}

// random is a sole description from bytes to bytes, of a to d and perhaps all other bytes.
func random(r *rand.Rand, states, width int) api.Desc {
	d := from(states, nil)
	d.Start = r.Intn(states)
	guards := func(n int) [][]api.Span {
		var l [][]api.Span
		for range n {
			g := set('a'+r.Intn(4), 'a'+r.Intn(4))
			if r.Intn(5) == 0 {
				g = set(0, 'a'-1, 'e', 255)
			}
			if x := 'a' + r.Intn(4); !span.Check(g) || r.Intn(3) == 0 {
				g = set(x, x)
			}
			l = append(l, g)
		}
		return l
	}
	write := func(g [][]api.Span) []api.Term {
		var l []api.Term
		for range r.Intn(4) {
			x := api.Term{Base: r.Intn(3), Drop: r.Intn(2), Take: 1 + r.Intn(7), Sum: r.Intn(9)}
			for i := range r.Intn(3) {
				if len(g) > 0 {
					x.Parts = append(x.Parts, api.Part{At: r.Intn(len(g)), Drop: r.Intn(3), Take: 1 + r.Intn(6), Up: 2 * i})
				}
			}
			if term.Fits(x, api.Bytes, api.Bytes, g) {
				l = append(l, x)
			}
		}
		return l
	}
	for range states * (1 + r.Intn(6)) {
		g := guards(1 + r.Intn(width))
		d.Rules = append(d.Rules, api.Rule{From: r.Intn(states), To: r.Intn(states), Guards: g, Eat: 1 + r.Intn(len(g)), Out: write(g)})
	}
	for range states * 3 {
		g := guards(r.Intn(width + 1))
		d.Finals = append(d.Finals, api.Final{From: r.Intn(states), Guards: g, Out: write(g)})
	}
	return thin(d)
}

// thin is a description without those of its options that clash with others.
func thin(d api.Desc) api.Desc {
	for {
		_, k, yes := sole.Clash(d)
		switch n := len(d.Rules); {
		case !yes:
			return d
		case k < n:
			d.Rules = slices.Delete(d.Rules, k, k+1)
		default:
			d.Finals = slices.Delete(d.Finals, k-n, k-n+1)
		}
	}
}

// P17.1, P17.3: tables of any sole descriptions are as the model's, right, and tell what the descriptions do.
func TestRandom(t *testing.T) {
	r := rand.New(rand.NewSource(17))
	inputs := words("abcd", 4)
	for _, w := range words("abcdz", 6) {
		if r.Intn(60) == 0 {
			inputs = append(inputs, w)
		}
	}
	related := 0
	for range 250 {
		d := random(r, 1+r.Intn(3), 1+r.Intn(4))
		x := wantTable(t, d)
		for _, w := range inputs {
			if wantDriven(t, d, x, w) {
				related++
			}
		}
	}
	if related < 2000 {
		t.Errorf("only %d inputs are related to something", related)
	}
}

// P17.3: tables of what decodes, changes and encodes, in one.
func TestFused(t *testing.T) {
	amp := api.Desc{In: api.Scalars, Out: api.Scalars, States: 1, Rules: []api.Rule{
		rule(0, 0, "&", 1, "&amp;"),
		{Guards: [][]api.Span{span.Minus(word.Domain(api.Scalars), set('&', '&'))}, Eat: 1, Out: []api.Term{term.Copy(0, 0)}},
	}, Finals: []api.Final{final(0, "", "")}}
	for _, a := range []api.Desc{codec.Strict(), codec.Repairer()} {
		d, e := fuse.Fuse(a, amp, codec.Encoder(), 64)
		if e != api.OK {
			t.Fatalf("Fuse: %d", e)
		}
		x := wantTable(t, d)
		if table.Most(x) < 5 {
			t.Errorf("Most: %d", table.Most(x))
		}
		r := rand.New(rand.NewSource(1))
		bytes := []rune{'a', '&', 0x7f, 0x80, 0xbf, 0xc1, 0xc3, 0xbc, 0xe0, 0xa0, 0xe2, 0x82, 0xac, 0xed, 0x9f, 0xf0, 0x90, 0xf4, 0x8f, 0xff}
		for range 4000 {
			var w []rune
			for range r.Intn(9) {
				w = append(w, bytes[r.Intn(len(bytes))])
			}
			wantDriven(t, d, x, w)
		}
		for _, s := range []string{"", "a&ü", "€&𐐷", strings.Repeat("&", 40)} {
			if !wantDriven(t, d, x, word.Raw([]byte(s))) {
				t.Errorf("%q is rejected", s)
			}
		}
	}
}

// P17.1: what is handed in stays as it was, and what is answered shares no memory with it, nor within.
func TestMemory(t *testing.T) {
	d := from(2, []api.Rule{rule(0, 1, "a b", 1, "xy"), rule(1, 0, "bc", 1, "z")}, final(0, "", "p"), final(1, "d", "q"))
	d.Rules[0].Out = append(d.Rules[0].Out, term.Copy(1, 0))
	before := fmt.Sprint(d)
	x, _ := table.Compile(d)
	told := text(x)
	table.Check(x)
	table.Most(x)
	if fmt.Sprint(d) != before || text(x) != told {
		t.Fatal("what was handed in was changed")
	}
	again, _ := table.Compile(d)
	for i := range x.Nodes {
		_ = append(x.Nodes[i].Next, 99)
		clear(x.Nodes[i].Next)
	}
	for i := range x.Acts {
		_ = append(x.Acts[i].Out, api.Term{Sum: 99})
		for k := range x.Acts[i].Out {
			clear(x.Acts[i].Out[k].Parts)
		}
		clear(x.Acts[i].Out)
	}
	for i := range x.Ends {
		_ = append(x.Ends[i], api.Term{Sum: 99})
		clear(x.Ends[i])
	}
	clear(x.Nodes)
	clear(x.Acts)
	clear(x.Ends)
	if fmt.Sprint(d) != before || text(again) != told {
		t.Error("what was answered is not new memory")
	}
}

// P17.2: what makes a table wrong, and what doesn't.
func TestCheck(t *testing.T) {
	two := []api.Term{{Take: 8, Parts: []api.Part{{At: 1, Take: 8}}}} // right of two symbols
	wrong := []api.Term{{Take: 0}}                                    // right of no window
	four := []api.Term{term.Copy(3, 0)}
	for _, c := range []struct {
		what   string
		change func(x *api.Table)
		want   bool
	}{
		{"nothing", func(x *api.Table) {}, true},
		{"no nodes", func(x *api.Table) { x.Nodes = nil }, false},
		{"as many nodes as may be", func(x *api.Table) { grow(x, api.MaxNodes) }, true},
		{"a node too many", func(x *api.Table) { grow(x, api.MaxNodes+1) }, false},
		{"as many acts as may be", func(x *api.Table) { x.Acts = slices.Repeat(x.Acts[:1], api.MaxRules) }, true},
		{"an act too many", func(x *api.Table) { x.Acts = slices.Repeat(x.Acts[:1], api.MaxRules+1) }, false},
		{"as many ends as may be", func(x *api.Table) { x.Ends = slices.Repeat(x.Ends[:1], api.MaxRules) }, true},
		{"an end too many", func(x *api.Table) { x.Ends = slices.Repeat(x.Ends[:1], api.MaxRules+1) }, false},
		{"a Next too long", func(x *api.Table) { x.Nodes[1].Next = append(x.Nodes[1].Next, -1) }, false},
		{"a Next too short", func(x *api.Table) { x.Nodes[1].Next = x.Nodes[1].Next[:2] }, false},
		{"the first Next too short", func(x *api.Table) { x.Nodes[0].Next = x.Nodes[0].Next[:2] }, false},
		{"no Next", func(x *api.Table) { x.Class, x.Nodes[0].Next, x.Nodes[1].Next = [256]uint8{}, nil, nil }, false},
		{"256 Next", func(x *api.Table) { widen(x, 256) }, true},
		{"257 Next", func(x *api.Table) { widen(x, 257) }, false},
		{"more Next than classes", func(x *api.Table) { widen(x, 4) }, true},
		{"a class too high", func(x *api.Table) { x.Class[255] = 3 }, false},
		{"the highest class", func(x *api.Table) { x.Class[255] = 2 }, true},
		{"a first node that holds", func(x *api.Table) { x.Nodes[0].Held, x.Nodes[1].Held = 1, 2 }, false},
		{"a Held below 0", func(x *api.Table) { x.Nodes = append(x.Nodes, api.Node{Held: -1, Next: []int{-1, -1, -1}, End: -1}) }, false},
		{"a Held of 4", func(x *api.Table) { x.Nodes = append(x.Nodes, api.Node{Held: 4, Next: []int{-1, -1, -1}, End: 0}) }, true},
		{"a Held of 5", func(x *api.Table) { x.Nodes = append(x.Nodes, api.Node{Held: 5, Next: []int{-1, -1, -1}, End: 0}) }, false},
		{"an act of a Held of 4", func(x *api.Table) { x.Nodes = append(x.Nodes, api.Node{Held: 4, Next: []int{-1, -3, -1}, End: -1}) }, false},
		{"an act of a Held of 3", func(x *api.Table) {
			x.Nodes = append(x.Nodes, api.Node{Held: 3, Next: []int{-1, -4, -1}, End: -1})
			x.Acts = append(x.Acts, api.Act{Eat: 4, Out: four})
		}, true},
		{"a node that holds no more", func(x *api.Table) { x.Nodes[1].Next[1] = 1 }, false},
		{"a node that holds less", func(x *api.Table) { x.Nodes[1].Next[1] = 0 }, false},
		{"a node that holds two more", func(x *api.Table) { x.Nodes[1].Held = 2 }, false},
		{"a node that is none", func(x *api.Table) { x.Nodes[0].Next[1] = 2 }, false},
		{"the greatest number", func(x *api.Table) { x.Nodes[0].Next[1] = math.MaxInt }, false},
		{"the least number", func(x *api.Table) { x.Nodes[0].Next[1] = math.MinInt }, false},
		{"the last act", func(x *api.Table) { x.Nodes[1].Next[1] = -3 }, true},
		{"an act that is none", func(x *api.Table) { x.Nodes[1].Next[1] = -4 }, false},
		{"an act that eats too much", func(x *api.Table) { x.Nodes[0].Next[0] = -2 }, false},
		{"an act that eats enough", func(x *api.Table) { x.Nodes[0].Next[0] = -3 }, true},
		{"terms of the window", func(x *api.Table) { x.Acts[0].Out = two }, true},
		{"terms beyond the window", func(x *api.Table) { x.Acts[1].Out, x.Nodes[0].Next[0] = two, -3 }, false},
		{"terms that are wrong", func(x *api.Table) { x.Acts[1].Out = wrong }, false},
		{"a wrong term behind a right one", func(x *api.Table) { x.Acts[0].Out = append(slices.Clone(two), wrong...) }, false},
		{"wrong terms of an act that isn't told of", func(x *api.Table) { x.Acts = append(x.Acts, api.Act{Eat: 4, Out: wrong}) }, true},
		{"nothing eaten, not told of", func(x *api.Table) { x.Acts = append(x.Acts, api.Act{Eat: 0}) }, false},
		{"five eaten, not told of", func(x *api.Table) { x.Acts = append(x.Acts, api.Act{Eat: 5}) }, false},
		{"to a node that holds", func(x *api.Table) { x.Acts = append(x.Acts, api.Act{Eat: 1, To: 1}) }, false},
		{"to a node that is none", func(x *api.Table) { x.Acts = append(x.Acts, api.Act{Eat: 1, To: 2}) }, false},
		{"to a node below 0", func(x *api.Table) { x.Acts = append(x.Acts, api.Act{Eat: 1, To: -1}) }, false},
		{"64 terms", func(x *api.Table) { x.Acts[0].Out = slices.Repeat(consts("x"), api.MaxOut) }, true},
		{"65 terms, not told of", func(x *api.Table) {
			x.Acts = append(x.Acts, api.Act{Eat: 1, Out: slices.Repeat(consts("x"), api.MaxOut+1)})
		}, false},
		{"an End below -1", func(x *api.Table) { x.Nodes[1].End = -2 }, false},
		{"an End that is none", func(x *api.Table) { x.Nodes[1].End = 1 }, false},
		{"an end told of twice", func(x *api.Table) { x.Nodes[1].End = 0 }, true},
		{"an end's terms of what is held", func(x *api.Table) {
			x.Nodes[1].End, x.Ends = 1, append(x.Ends, []api.Term{term.Copy(0, 0)})
		}, true},
		{"an end's terms beyond what is held", func(x *api.Table) { x.Nodes[1].End, x.Ends = 1, append(x.Ends, two) }, false},
		{"wrong terms of an end that isn't told of", func(x *api.Table) { x.Ends = append(x.Ends, wrong) }, true},
		{"64 terms of an end", func(x *api.Table) { x.Ends[0] = slices.Repeat(consts("x"), api.MaxOut) }, true},
		{"65 terms of an end that isn't told of", func(x *api.Table) { x.Ends = append(x.Ends, slices.Repeat(consts("x"), api.MaxOut+1)) }, false},
	} {
		x, _ := table.Compile(held())
		c.change(&x)
		if table.Check(x) != c.want || right(x) != c.want {
			t.Errorf("%s: %v, by the model %v", c.what, table.Check(x), right(x))
		}
	}
	if table.Check(api.Table{}) || table.Most(api.Table{}) != 0 {
		t.Error("the zero table")
	}
}

// grow makes a table have so many nodes.
func grow(x *api.Table, n int) {
	for len(x.Nodes) < n {
		x.Nodes = append(x.Nodes, api.Node{Held: 1, Next: []int{-1, -2, -3}, End: -1})
	}
}

// widen makes a table have so many classes.
func widen(x *api.Table, n int) {
	for i := range x.Nodes {
		for len(x.Nodes[i].Next) < n {
			x.Nodes[i].Next = append(x.Nodes[i].Next, -1)
		}
	}
}

// P17.2: tables with numbers changed here and there are right just where the model's words say so.
func TestCheckRandom(t *testing.T) {
	r := rand.New(rand.NewSource(172))
	good := 0
	for range 6000 {
		x, e := table.Compile(random(r, 1+r.Intn(3), 1+r.Intn(4)))
		if e != api.OK {
			t.Fatalf("Compile: %d", e)
		}
		for range 1 + r.Intn(3) {
			spoil(r, &x)
		}
		if table.Check(x) != right(x) {
			t.Fatalf("Check: %v: %s", table.Check(x), brief(x))
		}
		if right(x) {
			good++
		}
	}
	if good < 1000 || good > 5000 {
		t.Errorf("%d of 6000 are right", good)
	}
}

// spoil changes a number of a table.
func spoil(r *rand.Rand, x *api.Table) {
	n := &x.Nodes[r.Intn(len(x.Nodes))]
	small := r.Intn(7) - 1
	switch r.Intn(7) {
	case 0:
		n.Next[r.Intn(len(n.Next))] = r.Intn(12) - 6
	case 1:
		n.End = small
	case 2:
		n.Held = small
	case 3:
		x.Class[r.Intn(256)] = uint8(r.Intn(len(n.Next) + 1))
	case 4:
		if len(x.Acts) > 0 {
			x.Acts[r.Intn(len(x.Acts))].Eat = small
		}
	case 5:
		if len(x.Acts) > 0 {
			x.Acts[r.Intn(len(x.Acts))].To = small
		}
	case 6:
		if len(x.Acts) > 0 {
			x.Acts[r.Intn(len(x.Acts))].Out = []api.Term{term.Copy(r.Intn(4), 0)}
		}
	}
}

// P17.2: a table that tells of great acts again and again.
func TestCheckGreat(t *testing.T) {
	x := api.Table{Acts: slices.Repeat([]api.Act{{Eat: 1, Out: slices.Repeat([]api.Term{term.Copy(0, 0)}, api.MaxOut)}}, api.MaxRules)}
	for i := range api.MaxNodes {
		n := api.Node{Next: slices.Repeat([]int{-2 - i}, 256), End: -1}
		x.Nodes = append(x.Nodes, n)
	}
	if !table.Check(x) {
		t.Error("a great table is wrong")
	}
	if x.Nodes[4095].Next[255]--; table.Check(x) {
		t.Error("a great table with an act that is none is right")
	}
}

// P17.2: the most terms, of any table.
func TestMost(t *testing.T) {
	x := api.Table{Acts: []api.Act{{Out: consts("ab")}, {Out: consts("abc")}, {Out: consts("a")}}, Ends: [][]api.Term{consts("a"), nil}}
	if n := table.Most(x); n != 3 {
		t.Errorf("Most: %d", n)
	}
	if x.Ends[1] = slices.Repeat(consts("x"), 100); table.Most(x) != 100 {
		t.Errorf("Most of an end: %d", table.Most(x))
	}
	if n := table.Most(api.Table{Ends: [][]api.Term{nil}, Acts: []api.Act{{Eat: 1}}}); n != 0 {
		t.Errorf("Most of nothing written: %d", n)
	}
}
