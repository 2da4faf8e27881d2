package desc_test

import (
	"fmt"
	"math"
	"math/rand"
	"slices"
	"testing"

	"umlaut/api"
	"umlaut/desc"
	"umlaut/term"
)

// of writes a list by its bounds.
func of(bounds ...int) []api.Span {
	var l []api.Span
	for i := 0; i < len(bounds); i += 2 {
		l = append(l, api.Span{Lo: bounds[i], Hi: bounds[i+1]})
	}
	return l
}

// all writes guards.
func all(guards ...[]api.Span) [][]api.Span { return guards }

// some is so many spans of bytes, one number each.
func some(n int) []api.Span {
	var l []api.Span
	for i := range n {
		l = append(l, api.Span{Lo: 2 * i, Hi: 2 * i})
	}
	return l
}

// times is so many terms that write x.
func times(n int, x rune) []api.Term {
	var l []api.Term
	for range n {
		l = append(l, term.Const(x))
	}
	return l
}

// text is a description as a text, of which nil and empty lists are one.
func text(d api.Desc) string { return fmt.Sprint(d) }

// small is a well-formed description from bytes to bytes, of three states: rules that eat one and two of two symbols, an epsilon rule, and finals.
func small() api.Desc {
	return api.Desc{
		In: api.Bytes, Out: api.Bytes, States: 3, Start: 1,
		Rules: []api.Rule{
			{From: 0, To: 2, Guards: all(of('a', 'b'), of('c', 'c')), Eat: 1, Out: []api.Term{term.Copy(0, 1), term.Copy(1, 0)}},
			{From: 1, To: 0, Out: times(1, 'x')},
			{From: 2, To: 1, Guards: all(of(0, 97, 99, 255), of(0, 255)), Eat: 2},
		},
		Finals: []api.Final{
			{From: 2, Guards: all(of('c', 'c')), Out: []api.Term{term.Copy(0, 7)}},
			{From: 1},
		},
	}
}

// chained is so many states, of which each has an epsilon rule to the next one.
func chained(n int) api.Desc {
	d := desc.Empty(api.Scalars, api.Bytes)
	d.States = n
	for q := range n - 1 {
		d.Rules = append(d.Rules, api.Rule{From: q, To: q + 1})
	}
	return d
}

func wantWhere(t *testing.T, d api.Desc, kind, at int, what string) {
	t.Helper()
	if k, i := desc.Where(d); k != kind || i != at {
		t.Errorf("Where, %s: %d, %d, not %d, %d", what, k, i, kind, at)
	}
	want := api.ErrInvalid
	if kind == api.FNone {
		want = api.OK
	}
	if e := desc.Check(d); e != want {
		t.Errorf("Check, %s: %d, not %d", what, e, want)
	}
}

// P6.1: what is well formed, at the limits.
func TestWellFormed(t *testing.T) {
	wantWhere(t, small(), api.FNone, 0, "small")
	wantWhere(t, desc.Empty(api.Bytes, api.Scalars), api.FNone, 0, "empty")
	wantWhere(t, desc.Same(api.Bytes), api.FNone, 0, "the same bytes")
	wantWhere(t, desc.Same(api.Scalars), api.FNone, 0, "the same scalars")
	wantWhere(t, chained(api.MaxStates), api.FNone, 0, "a chain")
	for what, change := range map[string]func(d *api.Desc){
		"start at the end":   func(d *api.Desc) { d.Start = 2 },
		"start first":        func(d *api.Desc) { d.Start = 0 },
		"states of no use":   func(d *api.Desc) { d.States = api.MaxStates },
		"most rules":         func(d *api.Desc) { d.Rules = slices.Repeat(d.Rules[:1], api.MaxRules) },
		"most finals":        func(d *api.Desc) { d.Finals = slices.Repeat(d.Finals[1:], api.MaxRules) },
		"nothing":            func(d *api.Desc) { d.Rules, d.Finals = nil, nil },
		"most guards":        func(d *api.Desc) { d.Rules[0].Guards = slices.Repeat(d.Rules[0].Guards, 2) },
		"eats most":          func(d *api.Desc) { d.Rules[0].Guards, d.Rules[0].Eat = slices.Repeat(d.Rules[0].Guards, 2), 4 },
		"most spans":         func(d *api.Desc) { d.Rules[2].Guards[1] = some(api.MaxSpans) },
		"most terms":         func(d *api.Desc) { d.Rules[1].Out = times(api.MaxOut, 255) },
		"a final's guards":   func(d *api.Desc) { d.Finals[0].Guards = slices.Repeat(d.Finals[0].Guards, 4) },
		"a final's spans":    func(d *api.Desc) { d.Finals[0].Guards[0] = some(api.MaxSpans) },
		"a final's terms":    func(d *api.Desc) { d.Finals[1].Out = times(api.MaxOut, 0) },
		"empty lists":        func(d *api.Desc) { d.Rules[1].Guards, d.Finals[1].Guards = all(), all() },
		"to scalars":         func(d *api.Desc) { d.Out = api.Scalars },
		"the last byte":      func(d *api.Desc) { d.Rules[0].Guards[0] = of(0, 254) },
		"epsilon rules":      func(d *api.Desc) { d.Rules = append(d.Rules, d.Rules[1], d.Rules[1], api.Rule{From: 1, To: 2}) },
		"round about a rule": func(d *api.Desc) { d.Rules = append(d.Rules, api.Rule{From: 2, To: 1}, api.Rule{From: 2, To: 0}) },
	} {
		d := small()
		change(&d)
		wantWhere(t, d, api.FNone, 0, what)
	}
	d := desc.Same(api.Scalars)
	d.Rules[0].Guards[0] = of(0, 0xd7ff, 0xe000, api.MaxRune)
	wantWhere(t, d, api.FNone, 0, "all scalars")
}

// P6.1: a head that is wrong, whatever else is.
func TestHead(t *testing.T) {
	for what, change := range map[string]func(d *api.Desc){
		"In none":        func(d *api.Desc) { d.In = 0 },
		"In beyond":      func(d *api.Desc) { d.In = 3 },
		"In below":       func(d *api.Desc) { d.In = math.MinInt },
		"Out none":       func(d *api.Desc) { d.Out = 0 },
		"Out beyond":     func(d *api.Desc) { d.Out = 3 },
		"no states":      func(d *api.Desc) { d.States, d.Start = 0, 0 },
		"states below":   func(d *api.Desc) { d.States, d.Start = -5, -6 },
		"many states":    func(d *api.Desc) { d.States = api.MaxStates + 1 },
		"most states":    func(d *api.Desc) { d.States = math.MaxInt },
		"start below":    func(d *api.Desc) { d.Start = -1 },
		"start beyond":   func(d *api.Desc) { d.Start = 3 },
		"start at most":  func(d *api.Desc) { d.Start = math.MaxInt },
		"start at least": func(d *api.Desc) { d.Start = math.MinInt },
		"many rules":     func(d *api.Desc) { d.Rules = slices.Repeat(d.Rules[:1], api.MaxRules+1) },
		"many finals":    func(d *api.Desc) { d.Finals = slices.Repeat(d.Finals[1:], api.MaxRules+1) },
	} {
		d := small()
		change(&d)
		wantWhere(t, d, api.FHead, 0, what)
		if len(d.Rules) > 1 {
			d.Rules[1].Eat, d.Finals[0].From = 7, 7
			wantWhere(t, d, api.FHead, 0, what+", and more")
		}
	}
	wantWhere(t, api.Desc{}, api.FHead, 0, "zero")
}

// wrongGuards: guards of bytes that may not be; each has two places.
var wrongGuards = map[string][][]api.Span{
	"five guards":     slices.Repeat(all(of(0, 9)), 5),
	"an empty guard":  all(of(0, 9), nil),
	"an empty span":   all(of(0, 9), of(5, 4)),
	"empty, and some": all(of(0, 9), of(5, 4, 7, 7)),
	"not joined":      all(of(0, 9), of(1, 4, 5, 7)),
	"lying over":      all(of(1, 4, 4, 7), of(0, 9)),
	"falling":         all(of(5, 7, 1, 2), of(0, 9)),
	"no byte":         all(of(0, 9), of(0, 256)),
	"far":             all(of(0, 9), of(0, 1, 1000, 1000)),
	"below":           all(of(-1, 9), of(0, 9)),
	"no number":       all(of(0, 9), of(math.MinInt, math.MaxInt)),
	"many spans":      all(of(0, 9), some(api.MaxSpans+1)),
}

// wrongTerms: terms that may not be, behind two guards of which the first one has 0 to 254, the other one all bytes.
var wrongTerms = map[string][]api.Term{
	"many terms":    times(api.MaxOut+1, 'x'),
	"no byte":       times(1, 256),
	"below":         {term.Const(-1)},
	"last of all":   append(times(5, 'x'), term.Const(256)),
	"one too far":   {term.Copy(1, 1)},
	"no such place": {term.Copy(2, 0)},
	"place below":   {term.Copy(-1, 0)},
	"no bits":       {{Sum: 7, Take: 22}},
}

// P6.1: of each thing that may be wrong with a rule, alone, and ahead of others.
func TestRule(t *testing.T) {
	changes := map[string]func(r *api.Rule){
		"From below":  func(r *api.Rule) { r.From = -1 },
		"From beyond": func(r *api.Rule) { r.From = 3 },
		"To below":    func(r *api.Rule) { r.To = math.MinInt },
		"To beyond":   func(r *api.Rule) { r.To = 3 },
		"eats none":   func(r *api.Rule) { r.Eat = 0 },
		"eats below":  func(r *api.Rule) { r.Eat = -1 },
		"eats more":   func(r *api.Rule) { r.Eat = 3 },
		"eats most":   func(r *api.Rule) { r.Eat = math.MaxInt },
		"eats air":    func(r *api.Rule) { r.Guards, r.Eat, r.Out = nil, 1, nil },
		"eats less":   func(r *api.Rule) { r.Guards, r.Eat, r.Out = nil, -1, nil },
		"of no place": func(r *api.Rule) { r.Guards, r.Eat = nil, 0 },
	}
	for what, g := range wrongGuards {
		changes[what] = func(r *api.Rule) { r.Guards, r.Out = g, nil }
	}
	for what, l := range wrongTerms {
		changes[what] = func(r *api.Rule) { r.Guards, r.Out = all(of(0, 254), of(0, 255)), l }
	}
	for what, change := range changes {
		for i := range 3 {
			d := small()
			d.Rules[i] = api.Rule{From: 1, To: 2, Guards: all(of(0, 254), of(0, 255)), Eat: 1, Out: []api.Term{term.Copy(0, 1)}}
			wantWhere(t, d, api.FNone, 0, "not yet "+what)
			change(&d.Rules[i])
			wantWhere(t, d, api.FRule, i, what)
			d.Rules = append(d.Rules, api.Rule{}, api.Rule{From: -1})
			d.Finals[0].From = -1
			wantWhere(t, d, api.FRule, i, what+", and more")
		}
	}
}

// P6.1: of each thing that may be wrong with a final, alone, and ahead of others.
func TestFinal(t *testing.T) {
	changes := map[string]func(f *api.Final){
		"From below":  func(f *api.Final) { f.From = -1 },
		"From beyond": func(f *api.Final) { f.From = 3 },
		"of no place": func(f *api.Final) { f.Guards = nil },
	}
	for what, g := range wrongGuards {
		changes[what] = func(f *api.Final) { f.Guards, f.Out = g, nil }
	}
	for what, l := range wrongTerms {
		changes[what] = func(f *api.Final) { f.Guards, f.Out = all(of(0, 254), of(0, 255)), l }
	}
	for what, change := range changes {
		for i := range 2 {
			d := small()
			d.Finals[i] = api.Final{From: 2, Guards: all(of(0, 254), of(0, 255)), Out: []api.Term{term.Copy(0, 1)}}
			wantWhere(t, d, api.FNone, 0, "not yet "+what)
			change(&d.Finals[i])
			wantWhere(t, d, api.FFinal, i, what)
			d.Finals = append(d.Finals, api.Final{From: -1})
			d.Rules = append(d.Rules, api.Rule{})
			wantWhere(t, d, api.FFinal, i, what+", and more")
			d.Rules[2].Eat = 0
			wantWhere(t, d, api.FRule, 2, what+", and a rule")
		}
	}
}

// P6.1: guards and terms by the sorts.
func TestSorts(t *testing.T) {
	for _, c := range []struct {
		what    string
		in, out api.Sort
		guard   []api.Span
		term    api.Term
		right   bool
	}{
		{"bytes as scalars", api.Bytes, api.Scalars, of(0, 255), term.Copy(0, 0xd700), true},
		{"no scalar", api.Bytes, api.Scalars, of(0, 255), term.Copy(0, 0xd701), false},
		{"bits", api.Bytes, api.Scalars, of(0, 255), api.Term{Take: 21, Parts: []api.Part{{Take: 5, Up: 6}}}, true},
		{"bits of scalars", api.Scalars, api.Bytes, of(0, 255), api.Term{Take: 21, Parts: []api.Part{{Take: 5}}}, false},
		{"scalars as bytes", api.Scalars, api.Bytes, of(0, 255), term.Copy(0, 0), true},
		{"no byte", api.Scalars, api.Bytes, of(0, 256), term.Copy(0, 0), false},
		{"outer bits", api.Scalars, api.Bytes, of(0, api.MaxRune-0x80, api.MaxRune, api.MaxRune), api.Term{Take: 6, Parts: []api.Part{{Take: 21}}}, false},
		{"outer bits of scalars", api.Scalars, api.Bytes, of(0, 0xd7ff, 0xe000, api.MaxRune), api.Term{Take: 6, Base: 0x80, Parts: []api.Part{{Take: 21}}}, true},
		{"outer bits to scalars", api.Bytes, api.Scalars, of(0, 255), api.Term{Take: 6, Parts: []api.Part{{Take: 21}}}, false},
		{"surrogates", api.Scalars, api.Bytes, of(0, 0xd800), term.Const('x'), false},
		{"beyond", api.Scalars, api.Bytes, of(0xe000, api.MaxRune+1), term.Const('x'), false},
	} {
		d := api.Desc{In: c.in, Out: c.out, States: 1, Rules: []api.Rule{{Guards: all(c.guard), Eat: 1, Out: []api.Term{c.term}}}}
		f := api.Desc{In: c.in, Out: c.out, States: 1, Finals: []api.Final{{Guards: all(c.guard), Out: []api.Term{c.term}}}}
		if c.right {
			wantWhere(t, d, api.FNone, 0, c.what)
			wantWhere(t, f, api.FNone, 0, c.what)
		} else {
			wantWhere(t, d, api.FRule, 0, c.what)
			wantWhere(t, f, api.FFinal, 0, c.what)
		}
	}
}

// leads tells whether epsilon rules lead from p to q, some of them, by the states they may lead through.
func leads(rules []api.Rule, states, p, q int) bool {
	seen := make([]bool, states)
	var go1 func(p int)
	go1 = func(p int) {
		for _, r := range rules {
			if len(r.Guards) == 0 && r.From == p && !seen[r.To] {
				seen[r.To] = true
				go1(r.To)
			}
		}
	}
	go1(p)
	return seen[q]
}

// P6.1: all ways that epsilon rules may lead between three states; rules with guards don't count.
func TestCycle(t *testing.T) {
	const states = 3
	for bits := range 1 << (states * states) {
		d := desc.Empty(api.Bytes, api.Bytes)
		d.States = states
		for p := range states {
			for q := range states {
				r := api.Rule{From: p, To: q, Guards: all(of(0, 255)), Eat: 1}
				if bits>>(states*p+q)&1 == 1 {
					r = api.Rule{From: p, To: q}
				}
				d.Rules = append(d.Rules, r)
			}
		}
		kind := api.FNone
		for q := range states {
			if leads(d.Rules, states, q, q) {
				kind = api.FCycle
			}
		}
		wantWhere(t, d, kind, 0, fmt.Sprint(d.Rules))
	}
	long := chained(api.MaxStates)
	long.Start = 500
	long.Rules = append(long.Rules, api.Rule{From: 100, To: 99})
	wantWhere(t, long, api.FCycle, 0, "a long chain's cycle, to which nothing leads")
	long.Rules[len(long.Rules)-1] = api.Rule{From: 1023, To: 0}
	wantWhere(t, long, api.FCycle, 0, "a long cycle")
}

// P6.2: of any description.
func TestMeasures(t *testing.T) {
	rule := func(guards, eat, terms int) api.Rule {
		return api.Rule{From: -3, Guards: make([][]api.Span, guards), Eat: eat, Out: make([]api.Term, terms)}
	}
	final := func(guards, terms int) api.Final {
		return api.Final{From: 99, Guards: make([][]api.Span, guards), Out: make([]api.Term, terms)}
	}
	for _, c := range []struct {
		rules                 []api.Rule
		finals                []api.Final
		free                  bool
		width, ahead, longest int
	}{
		{nil, nil, true, 0, 0, 0},
		{nil, []api.Final{final(0, 0)}, true, 0, 0, 0},
		{nil, []api.Final{final(4, 3), final(1, 2)}, true, 0, 0, 3},
		{[]api.Rule{rule(0, 0, 0)}, nil, false, 0, 0, 0},
		{[]api.Rule{rule(1, 1, 2)}, nil, true, 1, 0, 2},
		{[]api.Rule{rule(4, 2, 2), rule(3, 2, 7), rule(2, 2, 0)}, []api.Final{final(4, 6)}, true, 4, 2, 7},
		{[]api.Rule{rule(3, 1, 0), rule(4, 3, 0), rule(0, 0, 1)}, []api.Final{final(0, 9)}, false, 4, 2, 9},
		{[]api.Rule{rule(2, 5, 0)}, nil, true, 2, 0, 0},
		{[]api.Rule{rule(2, -1, 0)}, nil, true, 2, 2, 0},
		{[]api.Rule{rule(2, math.MinInt, 0), rule(0, -7, 0)}, nil, false, 2, 2, 0},
		{[]api.Rule{rule(2, math.MaxInt, 0), rule(0, math.MaxInt, 0)}, nil, false, 2, 0, 0},
		{[]api.Rule{rule(20, 1, 300)}, []api.Final{final(50, 299)}, true, 20, 19, 300},
	} {
		d := api.Desc{States: -1, Rules: c.rules, Finals: c.finals}
		if desc.Free(d) != c.free || desc.Width(d) != c.width || desc.Ahead(d) != c.ahead || desc.Longest(d) != c.longest {
			t.Errorf("%v: %v, %d, %d, %d, not %v", d, desc.Free(d), desc.Width(d), desc.Ahead(d), desc.Longest(d), c)
		}
	}
	if d := small(); desc.Free(d) || desc.Width(d) != 2 || desc.Ahead(d) != 1 || desc.Longest(d) != 2 {
		t.Error("of the small one")
	}
}

// P6.3: of the sorts, and of what is none.
func TestEmptySame(t *testing.T) {
	for _, in := range []api.Sort{api.Bytes, api.Scalars, 0, 3, -1} {
		for _, out := range []api.Sort{api.Bytes, api.Scalars, 0, 3, -1} {
			if got := desc.Empty(in, out); text(got) != text(api.Desc{In: in, Out: out, States: 1}) {
				t.Errorf("Empty(%d, %d): %v", in, out, got)
			}
		}
		domain := map[api.Sort][]api.Span{api.Bytes: of(0, 255), api.Scalars: of(0, 0xd7ff, 0xe000, api.MaxRune)}[in]
		want := api.Desc{
			In: in, Out: in, States: 1,
			Rules:  []api.Rule{{Guards: all(domain), Eat: 1, Out: []api.Term{term.Copy(0, 0)}}},
			Finals: []api.Final{{}},
		}
		if got := desc.Same(in); text(got) != text(want) {
			t.Errorf("Same(%d): %v", in, got)
		}
	}
	d := desc.Same(api.Bytes)
	d.Rules[0].Guards[0][0].Hi, d.Rules[0].Out[0].Parts[0].At, d.Finals[0].From = 7, 7, 7
	if text(d) == text(desc.Same(api.Bytes)) {
		t.Error("Same answers one and the same memory")
	}
}

// moved is a description's rules and finals, its states numbered from base on.
func moved(d api.Desc, base int) ([]api.Rule, []api.Final) {
	rules, finals := slices.Clone(d.Rules), slices.Clone(d.Finals)
	for i := range rules {
		rules[i].From += base
		rules[i].To += base
	}
	for i := range finals {
		finals[i].From += base
	}
	return rules, finals
}

// join is the chapter's word.
func join(a, b api.Desc) api.Desc {
	ra, fa := moved(a, 1)
	rb, fb := moved(b, 1+a.States)
	return api.Desc{
		In: a.In, Out: a.Out, States: 1 + a.States + b.States, Start: 0,
		Rules:  slices.Concat([]api.Rule{{From: 0, To: 1 + a.Start}, {From: 0, To: 1 + a.States + b.Start}}, ra, rb),
		Finals: slices.Concat(fa, fb),
	}
}

// P6.4
func TestJoin(t *testing.T) {
	turned := small()
	turned.Start, turned.States = 2, 5
	l := []api.Desc{small(), turned, desc.Same(api.Bytes), desc.Empty(api.Bytes, api.Bytes)}
	for _, a := range l {
		for _, b := range l {
			got, e := desc.Join(a, b)
			if e != api.OK || text(got) != text(join(a, b)) {
				t.Errorf("Join(%v, %v): %v, %d", a, b, got, e)
			}
			wantWhere(t, got, api.FNone, 0, "joined")
		}
	}
	d, e := desc.Join(desc.Same(api.Bytes), desc.Empty(api.Bytes, api.Bytes))
	if e != api.OK || d.States != 3 || len(d.Rules) != 3 || len(d.Finals) != 1 || d.Finals[0].From != 1 ||
		d.Rules[0].To != 1 || d.Rules[1].To != 2 || d.Rules[2].From != 1 || d.Rules[2].To != 1 {
		t.Errorf("Join: %v, %d", d, e)
	}
}

func wantJoin(t *testing.T, a, b api.Desc, want api.Errno, what string) {
	t.Helper()
	got, e := desc.Join(a, b)
	if e != want || e != api.OK && text(got) != text(api.Desc{}) {
		t.Errorf("Join, %s: %d, not %d; %v", what, e, want, got)
	}
	if e == api.OK {
		wantWhere(t, got, api.FNone, 0, what)
	}
}

// P6.4: what isn't well formed, sorts that aren't the same, and the limits.
func TestJoinErrors(t *testing.T) {
	wrong, cyclic := small(), small()
	wrong.Rules[2].Eat = 0
	cyclic.Rules = append(cyclic.Rules, api.Rule{})
	wide := desc.Empty(api.Bytes, api.Bytes)
	wide.States = api.MaxStates
	for what, d := range map[string]api.Desc{
		"zero": {}, "wrong": wrong, "a cycle": cyclic, "scalars": desc.Same(api.Scalars),
		"to scalars": desc.Empty(api.Bytes, api.Scalars), "from scalars": desc.Empty(api.Scalars, api.Bytes),
	} {
		wantJoin(t, small(), d, api.ErrInvalid, what)
		wantJoin(t, d, small(), api.ErrInvalid, what)
		wantJoin(t, wide, d, api.ErrInvalid, what)
	}
	wantJoin(t, api.Desc{}, api.Desc{}, api.ErrInvalid, "zero twice")
	for _, n := range []int{0, 1, 2, 3} {
		want := api.OK
		if n == 3 {
			want = api.ErrLong
		}
		a, b := small(), small()
		a.States, b.States = 600, 421+n
		wantJoin(t, a, b, want, "states")
		a, b = small(), small()
		a.Rules, b.Rules = slices.Repeat(a.Rules[:1], 4000), slices.Repeat(b.Rules[:1], 92+n)
		wantJoin(t, a, b, want, "rules")
		a, b = small(), small()
		a.Finals, b.Finals = slices.Repeat(a.Finals[:1], 4000), slices.Repeat(b.Finals[:1], 94+n)
		wantJoin(t, b, a, want, "finals")
	}
	wantJoin(t, wide, desc.Empty(api.Bytes, api.Bytes), api.ErrLong, "states")
	wantJoin(t, wide, wide, api.ErrLong, "states")
}

// held tells whether the first symbols of a word are in guards, one by one.
func held(guards [][]api.Span, w []rune) bool {
	if len(guards) > len(w) {
		return false
	}
	for i, g := range guards {
		if !slices.ContainsFunc(g, func(s api.Span) bool { return s.Lo <= int(w[i]) && int(w[i]) <= s.Hi }) {
			return false
		}
	}
	return true
}

// written is what terms write of a window.
func written(l []api.Term, w []rune) string {
	var out []rune
	for _, x := range l {
		v, _ := term.Value(x, w)
		out = append(out, rune(v))
	}
	return string(out)
}

// outputs is what a description relates a word to, from a state on, by the words.
func outputs(d api.Desc, q int, w []rune, ahead string, to map[string]int) {
	for _, f := range d.Finals {
		if f.From == q && len(f.Guards) == len(w) && held(f.Guards, w) {
			to[ahead+written(f.Out, w)] = 1
		}
	}
	for _, r := range d.Rules {
		if r.From == q && held(r.Guards, w) {
			outputs(d, r.To, w[r.Eat:], ahead+written(r.Out, w[:len(r.Guards)]), to)
		}
	}
}

// P6.4: what is joined relates what one of both relates.
func TestJoinRelates(t *testing.T) {
	r := rand.New(rand.NewSource(6))
	for range 300 {
		a, b := chance(r), chance(r)
		d, e := desc.Join(a, b)
		if e != api.OK {
			t.Fatalf("Join(%v, %v): %d", a, b, e)
		}
		for n := range 40 {
			var w []rune
			for range n / 10 {
				w = append(w, 'a'+rune(r.Intn(2)))
			}
			got, want := map[string]int{}, map[string]int{}
			outputs(d, d.Start, w, "", got)
			outputs(a, a.Start, w, "", want)
			outputs(b, b.Start, w, "", want)
			if fmt.Sprint(got) != fmt.Sprint(want) {
				t.Fatalf("Join(%v, %v) of %q: %v, not %v", a, b, string(w), got, want)
			}
		}
	}
}

// chance is a well-formed description over a and b, by chance.
func chance(r *rand.Rand) api.Desc {
	for {
		d := desc.Empty(api.Bytes, api.Bytes)
		d.States = 1 + r.Intn(3)
		d.Start = r.Intn(d.States)
		guards := func(n int) [][]api.Span {
			var l [][]api.Span
			for range n {
				l = append(l, [][]api.Span{of('a', 'a'), of('b', 'b'), of('a', 'b')}[r.Intn(3)])
			}
			return l
		}
		for range r.Intn(6) {
			g := guards(r.Intn(3))
			d.Rules = append(d.Rules, api.Rule{From: r.Intn(d.States), To: r.Intn(d.States), Guards: g, Eat: min(len(g), 1+r.Intn(2)), Out: times(r.Intn(2), 'x'+rune(r.Intn(3)))})
		}
		for range 1 + r.Intn(2) {
			d.Finals = append(d.Finals, api.Final{From: r.Intn(d.States), Guards: guards(r.Intn(2)), Out: times(r.Intn(2), 'X')})
		}
		if desc.Check(d) == api.OK {
			return d
		}
	}
}

// roomy is a list with room behind it, in which something stands.
func roomy[T any](l []T, behind T) []T {
	return append(slices.Clip(slices.Clone(l)), behind, behind)[:len(l)]
}

// roomyDesc is the small description, with room behind all of its lists.
func roomyDesc() api.Desc {
	d := small()
	span, part, one := api.Span{Lo: 66, Hi: 66}, api.Part{At: 66}, api.Term{Sum: 66}
	guards := func(l [][]api.Span) [][]api.Span {
		for i := range l {
			l[i] = roomy(l[i], span)
		}
		return roomy(l, of(55, 55))
	}
	terms := func(l []api.Term) []api.Term {
		for i := range l {
			l[i].Parts = roomy(l[i].Parts, part)
		}
		return roomy(l, one)
	}
	for i, r := range d.Rules {
		d.Rules[i].Guards, d.Rules[i].Out = guards(r.Guards), terms(r.Out)
	}
	for i, f := range d.Finals {
		d.Finals[i].Guards, d.Finals[i].Out = guards(f.Guards), terms(f.Out)
	}
	d.Rules, d.Finals = roomy(d.Rules, api.Rule{From: 66}), roomy(d.Finals, api.Final{From: 66})
	return d
}

// whole is a description as a text, with all that lies in its lists' room.
func whole(d api.Desc) string {
	wide := func(g [][]api.Span, l []api.Term) string {
		out := ""
		for _, s := range g[:cap(g)] {
			out += fmt.Sprint(s[:cap(s)])
		}
		for _, x := range l[:cap(l)] {
			out += fmt.Sprint(x, x.Parts[:cap(x.Parts)])
		}
		return out
	}
	out := text(d)
	for _, r := range d.Rules[:cap(d.Rules)] {
		out += fmt.Sprint(r) + wide(r.Guards, r.Out)
	}
	for _, f := range d.Finals[:cap(d.Finals)] {
		out += fmt.Sprint(f) + wide(f.Guards, f.Out)
	}
	return out
}

// scrawl writes into all that a description holds, its lists' room too.
func scrawl(d api.Desc) {
	over := func(g [][]api.Span, l []api.Term) {
		for _, s := range g {
			for i := range s[:cap(s)] {
				s[:cap(s)][i].Lo = -7
			}
		}
		for _, x := range l {
			for i := range x.Parts[:cap(x.Parts)] {
				x.Parts[:cap(x.Parts)][i].Up = -7
			}
		}
		for i := range g[:cap(g)] {
			g[:cap(g)][i] = nil
		}
		for i := range l[:cap(l)] {
			l[:cap(l)][i] = api.Term{Base: -7}
		}
	}
	for i := range d.Rules {
		over(d.Rules[i].Guards, d.Rules[i].Out)
		d.Rules[i].To = -7
	}
	for i := range d.Finals {
		over(d.Finals[i].Guards, d.Finals[i].Out)
		d.Finals[i].From = -7
	}
}

// Rule 4: what is handed in isn't changed, its spare room neither; what is answered is new memory, of which no two lists share any.
func TestMemory(t *testing.T) {
	a, b := roomyDesc(), roomyDesc()
	first, _ := desc.Join(a, b)
	desc.Where(a)
	desc.Check(a)
	desc.Free(a)
	desc.Width(a)
	desc.Ahead(a)
	desc.Longest(a)
	if whole(a) != whole(roomyDesc()) || whole(b) != whole(roomyDesc()) {
		t.Error("what was handed in is changed")
	}
	scrawl(first)
	if whole(a) != whole(roomyDesc()) || whole(b) != whole(roomyDesc()) {
		t.Error("what was answered shares memory with what was handed in")
	}
	again, _ := desc.Join(a, a)
	if text(again) != text(join(small(), small())) {
		t.Errorf("Join once more: %v", again)
	}
	// The rules and finals of the one are written to: those of the other one stay.
	d := small()
	half := again
	half.Rules, half.Finals = again.Rules[:2+len(d.Rules)], again.Finals[:len(d.Finals)]
	scrawl(half)
	_, want := moved(d, 1+d.States)
	rules, _ := moved(d, 1+d.States)
	if fmt.Sprint(again.Rules[2+len(d.Rules):], again.Finals[len(d.Finals):]) != fmt.Sprint(rules, want) {
		t.Error("what was answered shares memory within")
	}
}
