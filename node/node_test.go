package node_test

import (
	"fmt"
	"math"
	"math/rand"
	"slices"
	"strings"
	"testing"

	"umlaut/api"
	"umlaut/desc"
	"umlaut/equal"
	"umlaut/node"
	"umlaut/run"
	"umlaut/term"
)

// some is as many spans, of one symbol each.
func some(n int) []int {
	var l []int
	for i := range n {
		l = append(l, 2*i, 2*i)
	}
	return l
}

// P24.1: right, by each kind; what counts for nothing doesn't.
func TestRight(t *testing.T) {
	a := pair("a", "x")
	wrong := []api.Recipe{{}}
	full := api.Recipe{Set: of(9, 7), By: math.MinInt, Read: []rune{-1}, Write: []rune{0xd800}, L: wrong}
	with := func(n api.Recipe, change func(n *api.Recipe)) api.Recipe {
		change(&n)
		return n
	}
	for _, c := range []struct {
		n    api.Recipe
		want bool
		what string
	}{
		{api.Recipe{}, false, "of no kind"},
		{api.Recipe{Kind: 7, L: []api.Recipe{a}}, false, "of no kind"},
		{api.Recipe{Kind: -1}, false, "of no kind"},
		{moved(0, 'a', 'z'), true, "a copy"},
		{moved(0), false, "a copy of nothing"},
		{moved(0, 0, 0xd7ff, 0xe000, 0x10ffff), true, "a copy of all"},
		{moved(0, 0, 0x10ffff), false, "a copy of what is no scalar"},
		{moved(0, 0xd7ff, 0xd800), false, "a copy of what is no scalar"},
		{moved(0, 0xdfff, 0xe000), false, "a copy of what is no scalar"},
		{moved(0, -1, 0), false, "a copy of what is no scalar"},
		{moved(0, 0x10ffff, 0x110000), false, "a copy of what is no scalar"},
		{moved(0, 'a', 'c', 'd', 'e'), false, "a copy of what isn't plain"},
		{moved(0, 'd', 'e', 'a', 'b'), false, "a copy of what isn't plain"},
		{moved(0, 'b', 'a', 'd', 'e'), false, "a copy of what isn't plain"},
		{moved(0, some(64)...), true, "a copy of 64 spans"},
		{moved(0, some(65)...), false, "a copy of 65 spans"},
		{moved(1, 'a', 'z'), true, "a copy that is moved"},
		{moved(-'a', 'a', 'z'), true, "a copy that is moved to 0"},
		{moved(-'a'-1, 'a', 'z'), false, "a copy that is moved below 0"},
		{moved(0x10ffff, 0, 0), true, "a copy that is moved to the end"},
		{moved(-0x10ffff, 0x10ffff, 0x10ffff), true, "a copy that is moved from the end"},
		{moved(0x110000, 0, 0), false, "a copy that is moved too far"},
		{moved(0x10ffff, 0, 1), false, "a copy that is moved beyond the end"},
		{moved(-0x110000, 0x10ffff, 0x10ffff), false, "a copy that is moved too far"},
		{moved(1<<40, 'a', 'a'), false, "a copy that is moved too far"},
		{moved(math.MaxInt, 'a', 'a'), false, "a copy that is moved too far"},
		{moved(math.MinInt, 'a', 'a'), false, "a copy that is moved too far"},
		{moved(math.MinInt+'a', 'a', 'a'), false, "a copy that is moved too far"},
		{moved(1, 0xd7fe, 0xd7fe), true, "a copy that is moved ahead of the gap"},
		{moved(1, 0xd7fe, 0xd7ff), false, "a copy that is moved into the gap"},
		{moved(-1, 0xe000, 0xe000), false, "a copy that is moved into the gap"},
		{moved(0x800, 0xd7fe, 0xd7ff), false, "a copy that is moved into the gap"},
		{moved(0x801, 0xd7ff, 0xd7ff), true, "a copy that is moved over the gap"},
		{moved(0x801, 0xd700, 0xd7ff), false, "a copy that is moved into the gap, but for its end"},
		{moved(0x900, 0xd000, 0xd7ff), false, "a copy that is moved over the gap in part"},
		{moved(-0x1000, 0xe000, 0xf000), false, "a copy with the gap within what comes of it"},
		{drop('a', 'z'), true, "a drop"},
		{drop(), false, "a drop of nothing"},
		{drop(0xd800, 0xd800), false, "a drop of what is no scalar"},
		{drop('a', 'b', 'c', 'd'), false, "a drop of what isn't plain"},
		{drop(some(64)...), true, "a drop of 64 spans"},
		{drop(some(65)...), false, "a drop of 65 spans"},
		{pair("", ""), true, "a pair of nothing"},
		{pair("a\U0010ffff", ""), true, "a pair"},
		{api.Recipe{Kind: api.KPair, Read: []rune{'a', 0xd800}}, false, "a pair that reads what is no scalar"},
		{api.Recipe{Kind: api.KPair, Read: []rune{-1}}, false, "a pair that reads what is no scalar"},
		{api.Recipe{Kind: api.KPair, Write: []rune{'a', 0x110000}}, false, "a pair that writes what is no scalar"},
		{api.Recipe{Kind: api.KPair, Write: []rune{0xdfff}}, false, "a pair that writes what is no scalar"},
		{cat(), true, "a row of nothing"},
		{alt(), true, "nothing"},
		{many(), false, "again and again nothing"},
		{cat(a, api.Recipe{}), false, "a row with what is wrong"},
		{alt(api.Recipe{}, a), false, "an alternative with what is wrong"},
		{many(a, api.Recipe{}), false, "again and again what is wrong"},
		{alt(a, many(cat())), false, "an alternative with what is wrong deeper"},
		{many(a), true, "again and again a"},
		{many(many(a)), false, "again and again what is so already"},
		{many(pair("", "x")), false, "again and again what reads nothing"},
		{many(pair("", "x"), a), true, "again and again what reads something"},
		{many(many(a), many(a)), false, "again and again what may read nothing"},
		{many(many(a), drop('b', 'b')), true, "again and again what reads something"},
		{many(alt(a, cat())), false, "again and again what may read nothing"},
		{many(alt(a, a)), true, "again and again one of two"},
		{many(alt()), true, "again and again nothing at all"},
		{many(cat(), alt(), many(a)), true, "again and again nothing at all"},
		{many(cat(pair("", ""), alt(pair("", ""), a))), false, "again and again what may read nothing, deeper"},
		{with(full, func(n *api.Recipe) { n.Kind = api.KPair; n.Read, n.Write = nil, nil }), true, "a pair of which the other fields are wrong"},
		{with(full, func(n *api.Recipe) { n.Kind = api.KDrop; n.Set = of(1, 2) }), true, "a drop of which the other fields are wrong"},
		{with(full, func(n *api.Recipe) { n.Kind = api.KCopy; n.Set, n.By = of(1, 2), 1 }), true, "a copy of which the other fields are wrong"},
		{with(full, func(n *api.Recipe) { n.Kind = api.KCat; n.L = nil }), true, "a row of which the other fields are wrong"},
		{with(full, func(n *api.Recipe) { n.Kind = api.KAlt; n.L = []api.Recipe{a} }), true, "an alternative of which the other fields are wrong"},
		{with(full, func(n *api.Recipe) { n.Kind = api.KMany; n.L = []api.Recipe{a} }), true, "a KMany of which the other fields are wrong"},
	} {
		if got := node.Right(c.n); got != c.want {
			t.Errorf("Right, %s: %v", c.what, got)
		}
		_, e := node.Compile(c.n)
		if c.want && e != api.OK || !c.want && e != api.ErrInvalid {
			t.Errorf("Compile, %s: %d", c.what, e)
		}
		if want := c.want && null(c.n); node.Null(c.n) != want {
			t.Errorf("Null, %s: not %v", c.what, want)
		}
	}
}

// P24.1: beneath at most 64 others.
func TestDepth(t *testing.T) {
	for _, over := range [][]int{{api.KCat}, {api.KAlt}, {api.KCat, api.KAlt}} {
		for _, above := range []int{0, 1, 63, 64, 65, 66, 1000} {
			for _, leaf := range []api.Recipe{pair("a", "x"), drop('a', 'a'), alt(), cat()} {
				n := deep(leaf, above, over...)
				if node.Right(n) != (above <= 64) || node.Null(n) != (above <= 64 && leaf.Kind == api.KCat) {
					t.Errorf("%d others above, of %v: Right %v, Null %v", above, over, node.Right(n), node.Null(n))
				}
				if d, e := node.Compile(n); (e == api.OK) != (above <= 64) || e != api.OK && e != api.ErrInvalid {
					t.Errorf("%d others above, of %v: Compile %v, %d", above, over, d, e)
				}
			}
		}
	}
	// What lies in the L of a node that has no use of it isn't beneath it.
	n := pair("a", "x")
	n.L = []api.Recipe{deep(pair("a", "x"), 100, api.KCat)}
	if !node.Right(deep(n, 64, api.KAlt)) {
		t.Error("L of a KPair counts")
	}
	// One list in several places, nearer and farther from the root.
	l := []api.Recipe{alt(), deep(pair("a", "x"), 31, api.KCat), alt()}
	for _, c := range []struct {
		above int
		want  bool
	}{{31, true}, {32, true}, {33, false}} {
		far := deep(cat(l...), c.above-1, api.KAlt)
		if got := node.Right(cat(cat(l...), far)); got != c.want {
			t.Errorf("a list %d beneath the other place: Right %v", c.above, got)
		}
		if got := node.Right(cat(far, cat(l...))); got != c.want {
			t.Errorf("a list %d beneath the other place, which is behind it: Right %v", c.above, got)
		}
	}
}

// P24.1: sizes.
func TestSize(t *testing.T) {
	for _, c := range []struct {
		n    api.Recipe
		want int
	}{
		{api.Recipe{}, 1},
		{pair("a", "bb"), 4},
		{many(pair("a", "bb")), 5},
		{cat(pair("ü", ""), alt(), drop('a', 'z')), 5},
		{api.Recipe{Kind: 77, Set: of(1, 2, 4, 5), By: 9, Read: []rune{-1, 2}, Write: []rune{3}, L: []api.Recipe{{}, {Read: []rune{1}}}}, 7},
		{cat(make([]api.Recipe, 1<<20-2)...), 1<<20 - 1},
		{cat(make([]api.Recipe, 1<<20-1)...), 1 << 20},
		{cat(make([]api.Recipe, 1<<20)...), 1 << 20},
		{cat(make([]api.Recipe, 3<<20)...), 1 << 20},
		{api.Recipe{Read: make([]rune, 1<<20-2)}, 1<<20 - 1},
		{api.Recipe{Write: make([]rune, 1<<20+7)}, 1 << 20},
		{api.Recipe{L: []api.Recipe{{Read: make([]rune, 1<<20), Write: make([]rune, 1<<20)}, {}}}, 1 << 20},
		{deep(pair("a", "b"), 100000, api.KCat), 100003},
	} {
		if got := node.Size(c.n); got != c.want {
			t.Errorf("Size: %d, not %d", got, c.want)
		}
	}
	r := chance{rand.New(rand.NewSource(1))}
	for range 300 {
		if n := r.node(4); node.Size(n) != size(n) {
			t.Errorf("Size of %s: %d, not %d", text(n), node.Size(n), size(n))
		}
	}
}

// doubled is a node with so many levels, the list of each of which stands in two places.
func doubled(n api.Recipe, levels int, kind int) api.Recipe {
	for range levels {
		n = api.Recipe{Kind: kind, L: []api.Recipe{n, n}}
	}
	return n
}

// Every call ends, of nodes too that stand within themselves, or in very many places.
func TestEnds(t *testing.T) {
	for _, kind := range []int{api.KCat, api.KAlt, api.KMany, api.KCopy, 0} {
		l := make([]api.Recipe, 3)
		l[0] = pair("a", "x")
		l[1] = api.Recipe{Kind: kind, Set: of('a', 'a'), L: l}
		l[2] = api.Recipe{Kind: kind, Set: of('a', 'a'), L: l[:2]}
		want := kind == api.KCopy
		if node.Right(l[1]) != want || node.Null(l[1]) || node.Size(l[1]) != 1<<20 {
			t.Errorf("within itself, of kind %d: %v, %v, %d", kind, node.Right(l[1]), node.Null(l[1]), node.Size(l[1]))
		}
		if d, e := node.Compile(l[1]); want && e != api.OK && e != api.ErrLong || !want && e != api.ErrInvalid || e != api.OK && d.States != 0 {
			t.Errorf("Compile of what is within itself, of kind %d: %v, %d", kind, d, e)
		}
	}
	for _, leaf := range []api.Recipe{pair("a", "x"), cat(), alt(), {}} {
		for _, kind := range []int{api.KCat, api.KAlt} {
			for _, levels := range []int{63, 64, 65} {
				n := doubled(leaf, levels, kind)
				want := levels < 65 && leaf.Kind != 0
				if node.Right(n) != want || node.Null(n) != (want && leaf.Kind == api.KCat) || node.Size(n) != 1<<20 {
					t.Errorf("%d levels of %d: %v, %v, %d", levels, kind, node.Right(n), node.Null(n), node.Size(n))
				}
				if _, e := node.Compile(n); want && e != api.ErrLong && e != api.OK || !want && e != api.ErrInvalid {
					t.Errorf("%d levels of %d: Compile %d", levels, kind, e)
				}
			}
		}
	}
}

// P24.1: Right and Null by a model, of what chance makes.
func TestByModel(t *testing.T) {
	r := chance{rand.New(rand.NewSource(2))}
	counts := [2]int{}
	for range 5000 {
		n := r.node(4)
		want := right(n, 0)
		if node.Right(n) != want || node.Null(n) != (want && null(n)) {
			t.Fatalf("%s: Right %v, Null %v", text(n), node.Right(n), node.Null(n))
		}
		if want {
			counts[1]++
		} else {
			counts[0]++
		}
	}
	if min(counts[0], counts[1]) < 500 {
		t.Errorf("too few: %v", counts)
	}
}

// compiled is a description of a node, which is asked whether it may be one.
func compiled(t *testing.T, n api.Recipe) api.Desc {
	t.Helper()
	d, e := node.Compile(n)
	if e != api.OK || desc.Check(d) != api.OK || d.In != api.Scalars || d.Out != api.Scalars {
		t.Fatalf("Compile: %d, %v", e, d)
	}
	return d
}

// outputs is all that a description relates an input to.
func outputs(t *testing.T, d api.Desc, x []rune) []string {
	t.Helper()
	l, e := run.Outputs(d, x, 1<<20)
	if e != api.OK {
		t.Fatalf("Outputs: %d", e)
	}
	var out []string
	for _, y := range l {
		out = append(out, string(y))
	}
	return out
}

// each goes through all words of so many symbols.
func each(symbols string, n int, ask func(w []rune)) {
	var more func(w []rune)
	more = func(w []rune) {
		if len(w) == n {
			ask(w)
			return
		}
		for _, x := range symbols {
			more(append(slices.Clip(w), x))
		}
	}
	more(nil)
}

// P24.2: what is described relates what the node relates, of all short words over a few symbols, and of some longer ones.
func TestRelates(t *testing.T) {
	r := chance{rand.New(rand.NewSource(3))}
	for range 6000 {
		n := r.rightNode(1 + r.Intn(4))
		if node.Size(n) > 300 {
			continue
		}
		d := compiled(t, n)
		ask := func(w []rune) {
			want := model(n, w)
			if len(want) > 1000 {
				return
			}
			if got := outputs(t, d, w); !slices.Equal(got, want) {
				t.Fatalf("%s of %q: %q, not %q", text(n), string(w), got, want)
			}
		}
		for length := range 4 {
			each(symbols, length, ask)
		}
		for range 5 {
			ask(r.word(symbols, 4+r.Intn(2)))
		}
	}
}

// P24.2: examples and edges.
func TestCompile(t *testing.T) {
	a, b := pair("a", "x"), pair("b", "y")
	for _, c := range []struct {
		n    api.Recipe
		x    string
		want []string
	}{
		{many(pair("a", "bb")), "aa", []string{"bbbb"}},
		{many(pair("a", "bb")), "", []string{""}},
		{cat(), "", []string{""}},
		{cat(), "a", nil},
		{alt(), "", nil},
		{alt(), "a", nil},
		{cat(a, alt(), b), "ab", nil},
		{many(alt()), "", []string{""}},
		{many(alt()), "a", nil},
		{pair("", ""), "", []string{""}},
		{pair("", "x"), "", []string{"x"}},
		{pair("abc", "x"), "abc", []string{"x"}},
		{pair("abc", "x"), "ab", nil},
		{pair("abc", "x"), "abcabc", nil},
		{moved(1, 'a', 'c'), "c", []string{"d"}},
		{moved(1, 'a', 'c'), "d", nil},
		{drop('a', 'c'), "b", []string{""}},
		{cat(many(a), many(b)), "aabb", []string{"xxyy"}},
		{cat(many(a), many(b)), "aba", nil},
		{alt(many(a), many(b)), "aa", []string{"xx"}},
		{alt(many(a), many(b)), "", []string{""}},
		{alt(many(a), many(b)), "ab", nil},
		{many(many(a), b), "abbaab", []string{"xyyxxy"}},
		{many(many(a), b), "aba", nil},
		{many(a, many(b)), "abbaab", []string{"xyyxxy"}},
		{many(a, many(b)), "ba", nil},
		{many(alt(cat(a, many(b)), cat(many(drop('c', 'c')), b))), "abcb", []string{"xyy"}},
		{cat(cat(many(a)), many(a)), "aa", []string{"xx"}},
		{cat(many(a), many(pair("a", "y"))), "aa", []string{"xx", "xy", "yy"}},
		{alt(a, pair("a", "y"), a), "a", []string{"x", "y"}},
		{cat(alt(a, cat()), alt(b, cat())), "", []string{""}},
		{cat(alt(a, cat()), alt(b, cat())), "b", []string{"y"}},
		{many(alt(many(a), alt(), b), b), "abbbb", []string{"xyyyy"}},
	} {
		if got := outputs(t, compiled(t, c.n), []rune(c.x)); !slices.Equal(got, c.want) {
			t.Errorf("%s of %s: %q, not %q", text(c.n), c.x, got, c.want)
		}
	}
}

// repeat is so many nodes that are alike.
func repeat(n api.Recipe, times int) []api.Recipe {
	return slices.Repeat([]api.Recipe{n}, times)
}

// P24.2: of a size of at most 300 there is always a description, of whatever shape.
func TestMost(t *testing.T) {
	a := pair("a", "")
	long := strings.Repeat("a", 299)
	nest := cat()
	for range 59 {
		nest = cat(cat(), nest, many(a))
	}
	all := []api.Recipe{
		pair(long, ""), pair("", long), pair(long[:150], long[150:]), pair(long[:1], long[1:]),
		cat(repeat(a, 149)...), alt(repeat(a, 149)...), many(repeat(a, 149)...),
		cat(repeat(many(a), 99)...), alt(repeat(many(a), 99)...), many(append(repeat(many(a), 98), a)...),
		cat(repeat(cat(), 299)...), alt(repeat(alt(), 299)...), alt(repeat(cat(), 299)...), cat(repeat(alt(), 299)...),
		alt(repeat(many(drop('a', 'a')), 149)...), cat(repeat(many(drop('a', 'a')), 149)...), many(repeat(drop('a', 'a'), 299)...),
		cat(repeat(moved(0, some(64)...), 299)...), alt(repeat(moved(0, some(64)...), 299)...), cat(repeat(alt(a, a, cat()), 48)...),
		nest,
	}
	for i, n := range all {
		if node.Size(n) > 300 {
			t.Fatalf("%d: a size of %d", i, node.Size(n))
		}
		compiled(t, n)
	}
	if got := outputs(t, compiled(t, all[1]), nil); !slices.Equal(got, []string{long}) {
		t.Errorf("what writes a lot: %q", got)
	}
	if got := outputs(t, compiled(t, all[2]), []rune(long[:150])); !slices.Equal(got, []string{long[150:]}) {
		t.Errorf("what reads and writes a lot: %q", got)
	}
	if got := outputs(t, compiled(t, cat(pair("", long[:140]), pair("a", long[:140]), many(a))), []rune("aaa")); !slices.Equal(got, []string{long[:280]}) {
		t.Errorf("what writes a lot, and then more: %q", got)
	}
	r := chance{rand.New(rand.NewSource(4))}
	for n := 0; n < 300; {
		x := r.rightNode(9)
		if s := node.Size(x); 100 < s && s <= 300 {
			compiled(t, x)
			n++
		}
	}
}

// P24.2: of more there may be ErrLong, but nothing else that isn't a description.
func TestMore(t *testing.T) {
	a := pair("a", "x")
	wide := strings.Repeat("a", 1<<20)
	for i, c := range []struct {
		n    api.Recipe
		long bool // no description could be great enough, if each symbol has a rule of its own
	}{
		{alt(repeat(a, 4096)...), false},
		{alt(repeat(a, 4097)...), true},
		{cat(repeat(a, 1023)...), false},
		{cat(repeat(a, 5000)...), true},
		{alt(repeat(alt(), 100000)...), false},
		{alt(repeat(alt(), 1<<20)...), false},
		{many(repeat(a, 100000)...), true},
		{pair(wide[:1<<19], ""), true},
		{pair("", wide), true},
		{pair(wide, wide), true},
		{cat(pair("", wide[:65535])), false},
		{alt(pair(wide[:5000], wide), a), true},
	} {
		d, e := node.Compile(c.n)
		if e == api.OK && desc.Check(d) != api.OK || e != api.OK && (e != api.ErrLong || fmt.Sprint(d) != fmt.Sprint(api.Desc{})) {
			t.Errorf("%d: %d", i, e)
		}
		if c.long && e != api.ErrLong {
			t.Errorf("%d: %d, of what is too long", i, e)
		}
	}
	if _, e := node.Compile(cat(cat(repeat(a, 5000)...), api.Recipe{})); e != api.ErrInvalid {
		t.Errorf("of what is too long and isn't right: %d", e)
	}
}

// wantEqual asks whether two nodes relate the same, of words over a few symbols.
func wantEqual(t *testing.T, a, b api.Recipe) {
	t.Helper()
	d, f := compiled(t, a), compiled(t, b)
	for length := range 4 {
		each(symbols, length, func(w []rune) {
			if x, y := outputs(t, d, w), outputs(t, f, w); !slices.Equal(x, y) {
				t.Fatalf("%s and %s of %q: %q, %q", text(a), text(b), string(w), x, y)
			}
		})
	}
}

// P24.3
func TestFollows(t *testing.T) {
	r := chance{rand.New(rand.NewSource(5))}
	for range 300 {
		var l []api.Recipe
		for range 1 + r.Intn(3) {
			l = append(l, r.rightNode(2))
		}
		turned := slices.Clone(l)
		slices.Reverse(turned)
		wantEqual(t, alt(l...), alt(turned...))
		k := r.Intn(len(l) + 1)
		wantEqual(t, cat(l...), cat(cat(l[:k]...), cat(l[k:]...)))
		if node.Right(many(l...)) {
			wantEqual(t, many(l...), alt(cat(), cat(cat(l...), many(l...))))
		}
	}
	a, b := pair("a", "x"), drop('b', 'c')
	for _, c := range [][2]api.Recipe{
		{many(a, b), alt(cat(), cat(a, b, many(a, b)))},
		{alt(a, b, cat(a, b)), alt(cat(a, b), b, a)},
		{cat(a, cat(b, a), b), cat(a, b, a, b)},
	} {
		d, f := compiled(t, c[0]), compiled(t, c[1])
		n, e := equal.Enough(d, f)
		if v, g := equal.Equal(d, f, n); e != api.OK || g != api.OK || v.Kind != api.VYes {
			t.Errorf("%s and %s: %v, %d, %d", text(c[0]), text(c[1]), v, e, g)
		}
	}
}

// roomy is a list with room behind it, in which something stands.
func roomy[T any](l []T, behind T) []T {
	return append(slices.Clip(slices.Clone(l)), behind, behind)[:len(l)]
}

// roomyNode is a node with room behind all of its lists.
func roomyNode() api.Recipe {
	set, word := roomy(of('a', 'b', 'f', 'g'), api.Span{Lo: 66}), func(s string) []rune { return roomy([]rune(s), -7) }
	l := []api.Recipe{
		{Kind: api.KCopy, Set: set, By: 1},
		{Kind: api.KCopy, Set: set},
		{Kind: api.KDrop, Set: roomy(of('c', 'c'), api.Span{Lo: 66})},
		{Kind: api.KPair, Read: word("ab"), Write: word("xyz")},
	}
	return api.Recipe{Kind: api.KMany, L: roomy(l, api.Recipe{Kind: 66})}
}

// whole is a node as a text, with what lies in its lists' room.
func whole(n api.Recipe) string {
	out := fmt.Sprint(n.Kind, n.By, n.Set[:cap(n.Set)], n.Read[:cap(n.Read)], n.Write[:cap(n.Write)], "{")
	for _, x := range n.L[:cap(n.L)] {
		out += whole(x)
	}
	return out + "}"
}

// Rule 4: what is handed in is neither changed nor kept, and what is answered is new memory, of which no two lists share any. Rule 6: the same is answered again.
func TestMemory(t *testing.T) {
	n := roomyNode()
	want := whole(n)
	d := compiled(t, n)
	first := fmt.Sprint(d)
	node.Right(n)
	node.Null(n)
	node.Size(n)
	seen := map[any]int{}
	lists := 0
	mark := func(p any) { seen[p]++; lists++ }
	for _, r := range d.Rules {
		for i := range r.Guards {
			mark(&r.Guards[i])
			mark(&r.Guards[i][0])
		}
		for i := range r.Out {
			mark(&r.Out[i])
			if len(r.Out[i].Parts) > 0 {
				mark(&r.Out[i].Parts[0])
			}
		}
	}
	if len(seen) != lists {
		t.Error("lists of an answer share memory")
	}
	for _, r := range d.Rules {
		for i := range r.Guards {
			g := r.Guards[i][:cap(r.Guards[i])]
			for k := range g {
				g[k] = api.Span{Lo: -7}
			}
			r.Guards[i] = nil
		}
		_ = append(r.Out, term.Const('q'))
		for i := range r.Out {
			r.Out[i] = api.Term{Sum: -7}
		}
	}
	if whole(n) != want {
		t.Errorf("what was handed in is changed: %s", whole(n))
	}
	if again := fmt.Sprint(compiled(t, n)); again != first {
		t.Errorf("%s, and then %s", first, again)
	}
	// What was answered doesn't change with what was handed in.
	d = compiled(t, n)
	n.L[0].Set[0], n.L[3].Read[0], n.L[3].Write[0] = api.Span{Lo: 7, Hi: 8}, 'q', 'q'
	if fmt.Sprint(d) != first {
		t.Error("what was handed in is kept")
	}
}
