package equal_test

import (
	"fmt"
	"math"
	"math/rand"
	"slices"
	"testing"

	"umlaut/api"
	"umlaut/desc"
	"umlaut/epsilon"
	"umlaut/equal"
	"umlaut/look"
	"umlaut/term"
	"umlaut/trim"
	"umlaut/word"
)

// words is all words of a text's symbols, of n at most.
func words(symbols string, n int) [][]rune {
	out := [][]rune{nil}
	for i := 0; i < len(out) && len(out[i]) < n; i++ {
		for _, x := range symbols {
			out = append(out, append(slices.Clone(out[i]), x))
		}
	}
	return out
}

// inputs is what all descriptions that are tried are asked of.
func inputs() [][]rune { return words("abc", 4) }

// double tells whether a description relates one of some inputs to two outputs.
func double(d api.Desc, l [][]rune) bool {
	return slices.ContainsFunc(l, func(x []rune) bool { return len(outputs(d, x)) > 1 })
}

// unlike tells whether two relate one of some inputs to unlike things.
func unlike(a, b api.Desc, l [][]rune) bool {
	return slices.ContainsFunc(l, func(x []rune) bool { return fmt.Sprint(outputs(a, x)) != fmt.Sprint(outputs(b, x)) })
}

// wantAll asks whether a verdict, which is true as far as its own input tells, is the one that must be told, as far as many other inputs tell.
func wantAll(t *testing.T, a, b api.Desc, v api.Verdict) {
	t.Helper()
	l := inputs()
	left, right := double(a, l), double(b, l)
	ok := true
	switch v.Kind {
	case api.VRight:
		ok = !left
	case api.VNo:
		ok = !left && !right
	case api.VYes:
		ok = !left && !right && !unlike(a, b, l)
	}
	if !ok {
		t.Fatalf("%v, but %v, %v, %v: %s", v, left, right, unlike(a, b, l), brief(a, b))
	}
}

// try is a source of numbers for descriptions.
type try struct{ *rand.Rand }

// newTry is a source of its own.
func newTry(seed int64) try { return try{rand.New(rand.NewSource(seed))} }

// guard is a set of a sort's symbols.
func (r try) guard(s api.Sort) []api.Span {
	sets := [][]api.Span{set('a', 'a'), set('b', 'b'), set('c', 'c'), set('a', 'b'), set('b', 'c'), set('a', 'a', 'c', 'c'), set('a', 'c'), word.Domain(s)}
	return slices.Clone(sets[r.Intn(len(sets))])
}

// term is a term of windows of n symbols.
func (r try) term(d api.Desc, n int) api.Term {
	if n == 0 || r.Intn(3) > 0 {
		return term.Const(rune('a' + r.Intn(2)))
	}
	if d.In == api.Scalars || r.Intn(2) == 0 {
		return term.Copy(r.Intn(n), 0)
	}
	return api.Term{Take: 21, Sum: 'a', Parts: []api.Part{{At: r.Intn(n), Take: 1 + r.Intn(2)}}}
}

// window is guards and terms.
func (r try) window(d api.Desc, n int) ([][]api.Span, []api.Term) {
	var guards [][]api.Span
	var terms []api.Term
	for range n {
		guards = append(guards, r.guard(d.In))
	}
	for range r.Intn(3) {
		terms = append(terms, r.term(d, n))
	}
	return guards, terms
}

// desc is a description of few states, whose epsilon rules lead on.
func (r try) desc(in, out api.Sort) api.Desc {
	for {
		d := api.Desc{In: in, Out: out, States: 1 + r.Intn(3)}
		d.Start = r.Intn(d.States)
		for range r.Intn(5) {
			x := api.Rule{From: r.Intn(d.States), To: r.Intn(d.States)}
			n := []int{1, 1, 1, 1, 2, 2, 3, 0}[r.Intn(8)]
			x.Guards, x.Out = r.window(d, n)
			if n > 0 {
				x.Eat = 1 + r.Intn(n)
			}
			d.Rules = append(d.Rules, x)
		}
		for range 1 + r.Intn(2) {
			x := api.Final{From: r.Intn(d.States)}
			x.Guards, x.Out = r.window(d, max(0, r.Intn(6)-3))
			d.Finals = append(d.Finals, x)
		}
		if desc.Check(d) == api.OK {
			return d
		}
	}
}

// like is a description that is nearly another one, or relates the same.
func (r try) like(d api.Desc) api.Desc {
	d.Rules, d.Finals = slices.Clone(d.Rules), slices.Clone(d.Finals)
	switch k := r.Intn(len(d.Rules) + len(d.Finals) + 2); {
	case k < len(d.Rules) && r.Intn(2) == 0:
		d.Rules = slices.Delete(d.Rules, k, k+1)
	case k < len(d.Rules):
		_, d.Rules[k].Out = r.window(d, len(d.Rules[k].Guards))
	case k < len(d.Rules)+len(d.Finals):
		d.Finals[k-len(d.Rules)].From = r.Intn(d.States)
	}
	if desc.Check(d) != api.OK {
		return r.desc(d.In, d.Out)
	}
	return d
}

// P22.2: descriptions of all kinds, and of all sorts.
func TestMany(t *testing.T) {
	r := newTry(22)
	count := map[int]int{}
	for i := range 2000 {
		a := r.desc(api.Sort(1+i%2), api.Sort(1+i/2%2))
		b := r.desc(a.In, a.Out)
		if i%3 > 0 {
			b = r.like(a)
		}
		if _, e := equal.Enough(a, b); e == api.ErrLong {
			continue
		}
		v := decide(t, a, b)
		count[v.Kind]++
		if i%2 == 0 {
			wantAll(t, a, b, v)
		}
		n := r.Intn(300)
		small, e := equal.Equal(a, b, n)
		if e == api.OK {
			wantTrue(t, a, b, small)
		}
		if enough, _ := equal.Enough(a, b); e != api.OK && (e != api.ErrBudget || n >= enough) || e == api.OK && small.Kind != v.Kind {
			t.Fatalf("Equal, %d: %v, %d, not %v: %s", n, small, e, v, brief(a, b))
		}
	}
	for _, k := range []int{api.VYes, api.VNo, api.VLeft, api.VRight} {
		if count[k] < 100 {
			t.Errorf("few verdicts: %v", count)
			break
		}
	}
}

// P22.1: Enough, of many descriptions.
func TestReadyStates(t *testing.T) {
	r := newTry(1)
	states := func(d api.Desc) int {
		d, _ = epsilon.Free(d)
		n, e := look.Count(d)
		if _, f := look.Eliminate(d, api.MaxStates); e != api.OK || f != api.OK {
			return 0
		}
		return n
	}
	many := 0
	for i := range 500 {
		a, b := r.desc(api.Bytes, api.Sort(1+i%2)), r.desc(api.Bytes, api.Sort(1+i%2))
		s, n := states(a), states(b)
		got, e := equal.Enough(a, b)
		if s == 0 || n == 0 {
			if got != 0 || e != api.ErrLong {
				t.Fatalf("Enough: %d, %d: %s", got, e, brief(a, b))
			}
			continue
		}
		if want := 1<<(s+n) + (s+n)*(s+n); s+n < 62 && (got != want || e != api.OK) {
			t.Fatalf("Enough: %d, %d, not %d: %s", got, e, want, brief(a, b))
		}
		if s+n > 5 {
			many++
		}
	}
	if many < 50 {
		t.Errorf("few places: %d", many)
	}
}

// P22.3: what is trimmed, freed of epsilon rules, or of lookahead, is equal to what it was, if that is single.
func TestFollows(t *testing.T) {
	r := newTry(3)
	singles := 0
	for i := range 300 {
		d := r.desc(api.Sort(1+i%2), api.Sort(1+i/2%2))
		if _, e := equal.Enough(d, d); e != api.OK {
			continue
		}
		free, e := epsilon.Free(d)
		trimmed, f := trim.Trim(d)
		simple, g := look.Eliminate(free, api.MaxStates)
		if e != api.OK || f != api.OK || g != api.OK {
			t.Fatalf("%d, %d, %d: %s", e, f, g, brief(d))
		}
		want := decide(t, d, d).Kind
		if want != api.VYes && want != api.VLeft {
			t.Fatalf("of itself: %d: %s", want, brief(d))
		}
		for _, x := range []api.Desc{free, trimmed, simple} {
			if _, e := equal.Enough(d, x); e != api.OK {
				t.Fatalf("Enough: %d: %s", e, brief(d, x))
			}
			if v := decide(t, d, x); v.Kind != want {
				t.Fatalf("%v, not %d: %s", v, want, brief(d, x))
			}
		}
		if want == api.VYes {
			singles++
		}
	}
	if singles < 100 {
		t.Errorf("few that are single: %d", singles)
	}
}

// As many states and rules as there may be.
func TestGreat(t *testing.T) {
	great := func(n int, last ...api.Term) api.Desc {
		d := from(nil, ends(n-1, "", ""))
		d.States = n
		for q := range n {
			for k := range 4 {
				d.Rules = append(d.Rules, reads(q, (q+1)%n, set(k*64, k*64+63), term.Copy(0, 0)))
			}
		}
		d.Rules[len(d.Rules)-1].Out = last
		return d
	}
	full := great(api.MaxStates, term.Copy(0, 0))
	wantKind := func(what string, b api.Desc, kind int) api.Verdict {
		v, e := equal.Equal(full, b, math.MaxInt)
		if v.Kind != kind || e != api.OK {
			t.Errorf("%s: %d, %d symbols, %d", what, v.Kind, len(v.X), e)
		}
		return v
	}
	wantKind("the same", full, api.VYes)
	if v := wantKind("a state less", great(api.MaxStates-1, term.Copy(0, 0)), api.VNo); len(v.X) != api.MaxStates-2 || len(v.Y)+len(v.Z) > 0 {
		t.Errorf("a state less: %d symbols to %d and %d", len(v.X), len(v.Y), len(v.Z))
	}
	// One rule of the last state writes something else: the input goes once all round.
	if v := wantKind("another rule", great(api.MaxStates, term.Const('x')), api.VNo); len(v.X) != 2*api.MaxStates-1 || slices.Equal(v.Y, v.Z) || v.X[api.MaxStates-1] < 192 {
		t.Errorf("another rule: %d symbols to %d and %d", len(v.X), len(v.Y), len(v.Z))
	}
}

// roomy is a list with room behind it, in which something stands.
func roomy[T any](l []T, behind T) []T {
	return append(l[:len(l):len(l)], behind, behind)[:len(l)]
}

// whole is a description as a text, with what lies in its lists' room.
func whole(d api.Desc) string {
	out := fmt.Sprint(d.In, d.Out, d.States, d.Start, d.Rules[:cap(d.Rules)], d.Finals[:cap(d.Finals)])
	window := func(guards [][]api.Span, terms []api.Term) {
		out += fmt.Sprint(guards[:cap(guards)], terms[:cap(terms)])
		for _, g := range guards {
			out += fmt.Sprint(g[:cap(g)])
		}
		for _, x := range terms {
			out += fmt.Sprint(x.Parts[:cap(x.Parts)])
		}
	}
	for _, r := range d.Rules {
		window(r.Guards, r.Out)
	}
	for _, f := range d.Finals {
		window(f.Guards, f.Out)
	}
	return out
}

// roomyOf is a description whose lists all have room behind them.
func roomyOf(d api.Desc) api.Desc {
	window := func(guards [][]api.Span, terms []api.Term) ([][]api.Span, []api.Term) {
		guards, terms = slices.Clone(guards), slices.Clone(terms)
		for i := range guards {
			guards[i] = roomy(guards[i], api.Span{Lo: 66})
		}
		for i := range terms {
			terms[i].Parts = roomy(terms[i].Parts, api.Part{At: 66})
		}
		return roomy(guards, set(67, 67)), roomy(terms, api.Term{Sum: 66})
	}
	d.Rules, d.Finals = slices.Clone(d.Rules), slices.Clone(d.Finals)
	for i, r := range d.Rules {
		d.Rules[i].Guards, d.Rules[i].Out = window(r.Guards, r.Out)
	}
	for i, f := range d.Finals {
		d.Finals[i].Guards, d.Finals[i].Out = window(f.Guards, f.Out)
	}
	d.Rules, d.Finals = roomy(d.Rules, api.Rule{From: 66}), roomy(d.Finals, api.Final{From: 66})
	return d
}

// altered is a description in new memory, changed.
func altered(d api.Desc, change func(*api.Desc)) api.Desc {
	d = roomyOf(d)
	change(&d)
	return d
}

// Rule 4: what is handed in isn't changed, its spare room neither, and what is answered is new memory, of which no two lists share any.
func TestMemory(t *testing.T) {
	d := from([]api.Rule{{To: 1, Out: consts("x")}, one(1, 1, "a", "ab"), eats(1, 1, "ba", 1, "b"), reads(1, 1, set('c', 'd'), term.Copy(0, 0))}, ends(1, "", "e"), ends(1, "b", "bb"))
	changed := altered(d, func(d *api.Desc) { d.Rules[3].Out[0].Parts[0].Take = 3 })
	less := altered(d, func(d *api.Desc) { d.Rules[3].Guards[0] = set('c', 'c') })
	both, _ := desc.Join(d, changed)
	for _, c := range []struct {
		a, b api.Desc
		kind int
	}{{d, d, api.VYes}, {d, changed, api.VNo}, {less, d, api.VNo}, {d, less, api.VNo}, {both, d, api.VLeft}, {d, both, api.VRight}} {
		a, b := roomyOf(c.a), roomyOf(c.b)
		was := whole(a) + whole(b)
		v, e := equal.Equal(a, b, math.MaxInt)
		if v.Kind != c.kind || e != api.OK {
			t.Fatalf("Equal: %v, %d, not %d", v, e, c.kind)
		}
		want := fmt.Sprint(v)
		for _, l := range []*[]rune{&v.X, &v.Y, &v.Z} {
			room := (*l)[:cap(*l)]
			for i := range room {
				room[i] = -7
			}
			*l = nil
			again, _ := equal.Equal(a, b, math.MaxInt)
			if fmt.Sprint(again) != want || len(v.Y) > 0 && !slices.Equal(v.Y, again.Y) || len(v.Z) > 0 && !slices.Equal(v.Z, again.Z) {
				t.Errorf("Equal: %v, and then %v", v, again)
			}
		}
		equal.Enough(a, b)
		if whole(a)+whole(b) != was {
			t.Error("what was handed in is changed")
		}
	}
}
