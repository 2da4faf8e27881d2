package single_test

import (
	"fmt"
	"math/rand"
	"slices"
	"strings"
	"testing"

	"umlaut/api"
	"umlaut/chain"
	"umlaut/codec"
	"umlaut/desc"
	"umlaut/epsilon"
	"umlaut/look"
	"umlaut/run"
	"umlaut/single"
	"umlaut/sole"
	"umlaut/span"
	"umlaut/term"
	"umlaut/word"
)

// symbols is all that guards of the descriptions that are tried tell apart, but for those behind the last one.
var symbols = []rune("abcd")

// config is two states, and what each has written of which the other one hasn't written the same.
type config struct {
	p, q int
	y, z string
}

// written is what terms write of a window.
func written(l []api.Term, w ...rune) string {
	var out []rune
	for _, t := range l {
		x, _ := term.Value(t, w)
		out = append(out, rune(x))
	}
	return string(out)
}

// without is two texts without what both begin with.
func without(y, z string) (string, string) {
	a, b := []rune(y), []rune(z)
	n := word.Front(a, b)
	return string(a[n:]), string(b[n:])
}

// nears is what two come to from two states with one symbol.
func nears(a, b api.Desc, c config) []config {
	var out []config
	for _, r := range a.Rules {
		for _, s := range b.Rules {
			for _, x := range symbols {
				if r.From == c.p && s.From == c.q && span.Has(r.Guards[0], int(x)) && span.Has(s.Guards[0], int(x)) {
					y, z := without(c.y+written(r.Out, x), c.z+written(s.Out, x))
					out = append(out, config{r.To, s.To, y, z})
				}
			}
		}
	}
	return out
}

// live is the pairs of states from which both may come to an end.
func live(a, b api.Desc) map[config]bool {
	out := map[config]bool{}
	for _, f := range a.Finals {
		for _, g := range b.Finals {
			out[config{p: f.From, q: g.From}] = true
		}
	}
	for n := -1; n < len(out); {
		n = len(out)
		for p := range a.States {
			for q := range b.States {
				for _, c := range nears(a, b, config{p: p, q: q}) {
					if out[config{p: c.p, q: c.q}] {
						out[config{p: p, q: q}] = true
					}
				}
			}
		}
	}
	return out
}

// apart tells whether two ever write unlike things, by all that they may come to.
func apart(a, b api.Desc) bool {
	use := live(a, b)
	// To the end both write no more than that, on the shortest way.
	most := (a.States*b.States + 1) * max(desc.Longest(a), desc.Longest(b))
	l := []config{{p: a.Start, q: b.Start}}
	seen := map[config]bool{l[0]: true}
	for i := 0; i < len(l); i++ {
		c := l[i]
		if !use[config{p: c.p, q: c.q}] {
			continue
		}
		if c.y != "" && c.z != "" || len([]rune(c.y+c.z)) > most {
			return true
		}
		for _, f := range a.Finals {
			for _, g := range b.Finals {
				if f.From == c.p && g.From == c.q && c.y+written(f.Out) != c.z+written(g.Out) {
					return true
				}
			}
		}
		for _, next := range nears(a, b, c) {
			if !seen[next] {
				seen[next] = true
				l = append(l, next)
			}
		}
	}
	return false
}

// wantModel asks of two, and the model.
func wantModel(t *testing.T, a, b api.Desc) bool {
	t.Helper()
	want := apart(a, b)
	if v := agree(t, a, b); v.Kind == api.VYes == want {
		t.Fatalf("Agree: %v, not %v: %s", v, want, brief(a, b))
	}
	return want
}

// try is a source of numbers for descriptions.
type try struct{ *rand.Rand }

// newTry is a source of its own.
func newTry(seed int64) try { return try{rand.New(rand.NewSource(seed))} }

// guard is a set of the symbols.
func (r try) guard() []api.Span {
	return only([]string{"a", "b", "c", "ab", "bc", "abcd", "ad", "bd"}[r.Intn(8)])
}

// terms is at most n terms, of a rule or a final, that write letters of some.
func (r try) terms(d api.Desc, n int, some string, rule bool) []api.Term {
	out := consts("")
	for range r.Intn(n + 1) {
		x := term.Const(rune(some[r.Intn(len(some))]))
		if rule && r.Intn(4) == 0 {
			x = []api.Term{term.Copy(0, 0), term.Copy(0, 1), {Take: 21, Sum: 'a', Parts: []api.Part{{Take: 1}}}, {Take: 21, Parts: []api.Part{{Take: 3}, {Drop: 3, Take: 5, Up: 3}}}}[r.Intn(4)]
			if d.In == api.Scalars {
				x.Parts = []api.Part{{Take: 21}}
			}
		}
		out = append(out, x)
	}
	return out
}

// desc is a description of few states.
func (r try) desc(in, out api.Sort, states, rules, longest int, some string) api.Desc {
	d := api.Desc{In: in, Out: out, States: 1 + r.Intn(states)}
	d.Start = r.Intn(d.States)
	for range r.Intn(rules + 1) {
		d.Rules = append(d.Rules, reads(r.Intn(d.States), r.Intn(d.States), r.guard(), r.terms(d, longest, some, true)...))
	}
	for range 1 + r.Intn(2) {
		d.Finals = append(d.Finals, api.Final{From: r.Intn(d.States), Out: r.terms(d, longest, some, false)})
	}
	return d
}

// P21.1, P21.2: descriptions of all kinds, and of all sorts.
func TestMany(t *testing.T) {
	r := newTry(21)
	yes, no := 0, 0
	for i := range 6000 {
		in, out := api.Sort(1+i%2), api.Sort(1+i/2%2)
		some := []string{"x", "ab", "xab", "a"}[i/4%4]
		longest := 1 + i/16%2
		a, b := r.desc(in, out, 3, 6, longest, some), r.desc(in, out, 3, 6, longest, some)
		if desc.Check(a) != api.OK || desc.Check(b) != api.OK {
			t.Fatalf("not well formed: %s", brief(a, b))
		}
		if wantModel(t, a, b) {
			no++
		} else if len(live(a, b)) > 1 {
			yes++
		}
		if (itself(t, a).Kind == api.VYes) == apart(a, a) {
			t.Fatalf("Single: not %v: %s", apart(a, a), brief(a))
		}
	}
	if yes < 500 || no < 1000 {
		t.Errorf("few descriptions: %d, %d", yes, no)
	}
}

// sole is a description of few states that goes one way only.
func (r try) sole(longest int) api.Desc {
	d := api.Desc{In: api.Bytes, Out: api.Bytes, States: 2 + r.Intn(3)}
	for q := range d.States {
		var guards [2][]api.Span
		for _, x := range "abcd" {
			if k := r.Intn(3); k < 2 {
				guards[k] = span.Union(guards[k], set(int(x), int(x)))
			}
		}
		for _, g := range guards {
			if len(g) > 0 {
				d.Rules = append(d.Rules, reads(q, r.Intn(d.States), g, r.terms(d, longest, "xy", true)...))
			}
		}
		if r.Intn(2) == 0 {
			d.Finals = append(d.Finals, api.Final{From: q, Out: r.terms(d, longest, "xy", false)})
		}
	}
	return d
}

// lay writes a text whenever a state is come to, or, the other one, whenever it is left, by a rule or a final: both relate the same, unless it is the start.
func lay(d api.Desc, q int, s string) (api.Desc, api.Desc) {
	early, late := d, d
	early.Rules, late.Rules, late.Finals = slices.Clone(d.Rules), slices.Clone(d.Rules), slices.Clone(d.Finals)
	for i, r := range d.Rules {
		if r.To == q {
			early.Rules[i].Out = slices.Concat(r.Out, consts(s))
		}
		if r.From == q {
			late.Rules[i].Out = slices.Concat(consts(s), r.Out)
		}
	}
	for i, f := range d.Finals {
		if f.From == q {
			late.Finals[i].Out = slices.Concat(consts(s), f.Out)
		}
	}
	return early, late
}

// P21.1: two that relate the same, one of which writes some of it later, agree just if one of them is single.
func TestAlike(t *testing.T) {
	r := newTry(22)
	yes, no, late := 0, 0, 0
	for i := range 1500 {
		var d api.Desc
		if i%3 == 0 {
			d = r.desc(1, 1, 4, 8, 1, "x")
		} else {
			d = r.sole(2)
		}
		if d.States == 1 {
			continue
		}
		a, b := d, d
		for _, k := range r.Perm(d.States - 1)[:1+r.Intn(d.States-1)] {
			q := (d.Start + 1 + k) % d.States
			s := []string{"x", "y", "xy", "yyx"}[r.Intn(4)]
			early, _ := lay(a, q, s)
			_, later := lay(b, q, s)
			a, b = early, later
			if r.Intn(3) == 0 {
				a, b = b, a
			}
		}
		want := itself(t, a).Kind == api.VYes
		if wantModel(t, a, b) == want || (itself(t, b).Kind == api.VYes) != want {
			t.Fatalf("not %v: %s", want, brief(d, a, b))
		}
		if want {
			yes++
		} else {
			no++
		}
		// One letter more, or another one, at a place.
		if len(b.Rules) == 0 {
			continue
		}
		b.Rules = slices.Clone(b.Rules)
		k := r.Intn(len(b.Rules))
		b.Rules[k].Out = append(consts("x"), b.Rules[k].Out[r.Intn(min(1, len(b.Rules[k].Out))+1):]...)
		if wantModel(t, a, b) && want {
			late++
		}
	}
	if yes < 600 || no < 60 || late < 200 {
		t.Errorf("few descriptions: %d, %d, %d", yes, no, late)
	}
}

// P21.1: rules that are parted, and terms of another form, count for nothing.
func TestForms(t *testing.T) {
	r := newTry(23)
	forms := []api.Term{term.Copy(0, 0), {Take: 8, Parts: []api.Part{{Take: 8}}}, {Take: 21, Parts: []api.Part{{Take: 4}, {Drop: 4, Take: 3, Up: 4}}}, {Base: 'a' - 1, Take: 3, Parts: []api.Part{{Take: 21}}}}
	for range 300 {
		d := r.sole(3)
		b := d
		b.Rules = nil
		for _, x := range d.Rules {
			for at := range span.Each(x.Guards[0]) {
				y := reads(x.From, x.To, set(at, at))
				for _, l := range x.Out {
					if fmt.Sprint(l) == fmt.Sprint(term.Copy(0, 0)) {
						l = append(forms, term.Const(rune(at)))[r.Intn(len(forms)+1)]
					}
					y.Out = append(y.Out, l)
				}
				b.Rules = append(b.Rules, y)
			}
		}
		r.Shuffle(len(b.Rules), func(i, j int) { b.Rules[i], b.Rules[j] = b.Rules[j], b.Rules[i] })
		wantYes(t, "other forms", d, b)
		if itself(t, b).Kind != api.VYes {
			t.Fatalf("Single: %s", brief(b))
		}
	}
}

// P21.3: what is sole is single.
func TestSole(t *testing.T) {
	r := newTry(24)
	d := codec.Encoder()
	wantSole := func(d api.Desc) {
		t.Helper()
		if ok, e := sole.Sole(d); !ok || e != api.OK || itself(t, d).Kind != api.VYes {
			t.Fatalf("%v, %d: %s", ok, e, brief(d))
		}
	}
	wantSole(d)
	wantSole(desc.Same(api.Scalars))
	for range 300 {
		wantSole(r.sole(3))
	}
	// One that isn't sole, and is single; what is fused with it is, too.
	b := of(2, 2, from([]api.Rule{reads(0, 0, word.Domain(api.Scalars), term.Copy(0, 0)), eats(0, 0, "ü", "ü")}, ends(0, "")))
	if itself(t, b).Kind != api.VYes {
		t.Error("Single")
	}
	c, e := chain.Chain(b, d, 9)
	if e != api.OK || itself(t, c).Kind != api.VYes {
		t.Errorf("Single of a chain, %d", e)
	}
	wantYes(t, "a chain", c, d)
	// What looked ahead: a is eaten together with a b that follows, or alone.
	ahead := from([]api.Rule{
		{Guards: [][]api.Span{only("a"), only("b")}, Eat: 2, Out: consts("x")},
		{Guards: [][]api.Span{only("a"), only("ac")}, Eat: 1, Out: consts("y")},
		eats(0, 0, "bc", "z"),
	}, ends(0, ""), api.Final{Guards: [][]api.Span{only("a")}, Out: consts("y")})
	ready, e := look.Eliminate(ahead, 9)
	if e != api.OK || itself(t, ready).Kind != api.VYes {
		t.Errorf("Single of what looked ahead, %d", e)
	}
	wantYes(t, "what looked ahead", ready, from([]api.Rule{eats(0, 1, "a", ""), eats(1, 0, "b", "x"), eats(1, 1, "a", "y"), eats(1, 0, "c", "yz"), eats(0, 0, "bc", "z")}, ends(0, ""), ends(1, "y")))
	wantNo(t, "what looked ahead, otherwise", ready, from([]api.Rule{eats(0, 1, "a", ""), eats(1, 0, "b", "x"), eats(1, 1, "a", "y"), eats(1, 0, "c", "zy"), eats(0, 0, "bc", "z")}, ends(0, ""), ends(1, "y")), "ac")
}

// P21.1: two in one, without their epsilon rules.
func TestJoined(t *testing.T) {
	r := newTry(25)
	for range 300 {
		a, b := r.sole(1), r.sole(1)
		both, _ := desc.Join(a, b)
		free, _ := epsilon.Free(both)
		v := itself(t, free)
		if (v.Kind == api.VYes) != (agree(t, a, b).Kind == api.VYes) {
			t.Fatalf("Single: %v: %s", v, brief(a, b))
		}
		if v.Kind == api.VLeft {
			if l, e := run.Outputs(free, v.X, 2); len(l) != 2 || e != api.OK {
				t.Fatalf("of %q: %v: %s", string(v.X), l, brief(a, b))
			}
		}
	}
}

// P21.1: nothing hangs on what was asked ahead.
func TestAgain(t *testing.T) {
	a := from([]api.Rule{eats(0, 0, "a", "x"), eats(0, 1, "b", strings.Repeat("x", 9))}, ends(1, ""))
	b := from([]api.Rule{eats(0, 0, "a", "x"), eats(0, 1, "b", strings.Repeat("x", 8))}, ends(1, ""))
	want, _ := single.Agree(a, b, 4)
	for range 20 {
		itself(t, a)
		if v, _ := single.Agree(a, b, 4); fmt.Sprint(v) != fmt.Sprint(want) {
			t.Errorf("Agree: %v, not %v", v, want)
		}
	}
}
