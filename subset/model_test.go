package subset_test

import (
	"fmt"
	"math/rand"
	"slices"
	"testing"

	"umlaut/api"
	"umlaut/desc"
	"umlaut/run"
	"umlaut/span"
	"umlaut/subset"
	"umlaut/term"
	"umlaut/word"
)

// blocksOf is the blocks, by the chapter's words: stretches of symbols that no guard tells apart are laid to the first block that the same guards have.
func blocksOf(a, b api.Desc) [][]api.Span {
	var guards [][]api.Span
	for _, r := range slices.Concat(a.Rules, b.Rules) {
		guards = append(guards, r.Guards...)
	}
	var begins []int
	for _, g := range append(guards, word.Domain(a.In)) {
		for _, s := range g {
			begins = append(begins, s.Lo, s.Hi+1)
		}
	}
	slices.Sort(begins)
	begins = slices.Compact(begins)
	at := map[string]int{}
	var out [][]api.Span
	for i, x := range begins {
		if !word.In(a.In, rune(x)) {
			continue
		}
		var have []bool
		for _, g := range guards {
			have = append(have, span.Has(g, x))
		}
		k, ok := at[fmt.Sprint(have)]
		if !ok {
			k = len(out)
			at[fmt.Sprint(have)] = k
			out = append(out, nil)
		}
		out[k] = span.Union(out[k], set(x, begins[i+1]-1))
	}
	return out
}

// pairModel is a pair, by the chapter's words, and its word.
type pairModel struct {
	sets [2][]int
	word []rune
}

// behind is the states to which rules lead from some states with a symbol, rising.
func behind(d api.Desc, states []int, x int) []int {
	var out []int
	for _, r := range d.Rules {
		if slices.Contains(states, r.From) && span.Has(r.Guards[0], x) {
			out = append(out, r.To)
		}
	}
	slices.Sort(out)
	return slices.Compact(out)
}

// pairsOf is all pairs as they come, and the first one that tells apart; -1, if none does.
func pairsOf(a, b api.Desc) ([]pairModel, int) {
	l := []pairModel{{sets: [2][]int{{a.Start}, {b.Start}}}}
	seen := map[string]bool{fmt.Sprint(l[0].sets): true}
	for i := 0; i < len(l); i++ {
		for _, block := range blocksOf(a, b) {
			x := block[0].Lo
			next := pairModel{[2][]int{behind(a, l[i].sets[0], x), behind(b, l[i].sets[1], x)}, append(slices.Clone(l[i].word), rune(x))}
			if key := fmt.Sprint(next.sets); !seen[key] {
				seen[key] = true
				l = append(l, next)
			}
		}
	}
	ended := func(d api.Desc, states []int) bool {
		return slices.ContainsFunc(d.Finals, func(f api.Final) bool { return slices.Contains(states, f.From) })
	}
	return l, slices.IndexFunc(l, func(p pairModel) bool { return ended(a, p.sets[0]) != ended(b, p.sets[1]) })
}

// wantModel asks all calls of two descriptions that may be asked of, with all budgets that differ, and tells how many pairs there are, and which one tells apart.
func wantModel(t *testing.T, a, b api.Desc) (int, int) {
	t.Helper()
	blocks, e := subset.Blocks(a, b)
	if want := blocksOf(a, b); e != api.OK || fmt.Sprint(blocks) != fmt.Sprint(want) {
		t.Fatalf("Blocks: %v, %d, not %v: %v", blocks, e, want, []api.Desc{a, b})
	}
	l, at := pairsOf(a, b)
	for n := -1; n <= len(l)+1; n++ {
		switch {
		case at >= 0 && at < n:
			wantSame(t, a, b, n, false, string(l[at].word), api.OK)
		case n < len(l):
			wantSame(t, a, b, n, false, "", api.ErrBudget)
		default:
			wantSame(t, a, b, n, true, "", api.OK)
		}
	}
	return len(l), at
}

// wantFollows asks what follows: of two that are the same, or of which a word tells apart.
func wantFollows(t *testing.T, a, b api.Desc) {
	t.Helper()
	ok, w, e := subset.Same(a, b, 1<<(a.States+b.States))
	if e != api.OK {
		t.Fatalf("Same: %d: %v", e, []api.Desc{a, b})
	}
	like := func(x []rune) bool {
		of, _ := run.Accepts(a, x)
		too, _ := run.Accepts(b, x)
		return of == too
	}
	if !ok && like(w) {
		t.Fatalf("%x tells nothing apart: %v", w, []api.Desc{a, b})
	}
	longest := 4
	if !ok {
		longest = min(len(w)-1, 4)
	}
	var symbols []rune
	for _, block := range blocksOf(a, b) {
		symbols = append(symbols, rune(block[len(block)-1].Hi))
	}
	for _, x := range words(symbols[:min(len(symbols), 4)], longest) {
		if !like(x) {
			t.Fatalf("%x tells apart, not %v, %x: %v", x, ok, w, []api.Desc{a, b})
		}
	}
}

// words is all words of at most n of some symbols.
func words(symbols []rune, n int) [][]rune {
	if n < 0 {
		return nil
	}
	out := [][]rune{nil}
	from := 0
	for range n {
		to := len(out)
		for _, w := range out[from:to] {
			for _, x := range symbols {
				out = append(out, append(slices.Clone(w), x))
			}
		}
		from = to
	}
	return out
}

// try is a source of numbers for descriptions.
type try struct{ *rand.Rand }

// desc is a description that reads one symbol at a time.
func (r try) desc(in api.Sort, total bool) api.Desc {
	d := api.Desc{In: in, Out: api.Sort(1 + r.Intn(2)), States: 1 + r.Intn(4)}
	d.Start = r.Intn(d.States)
	all := word.Domain(in)
	sets := [][]api.Span{set('a', 'a'), set('b', 'b'), set('a', 'b'), set('a', 'c', 'e', 'f'), span.Minus(all, set('a', 'a')), all}
	if in == api.Scalars {
		sets = append(sets, set(0xd7ff, 0xd7ff, 0xe000, 0xe000), set(0x10ff00, api.MaxRune))
	}
	for range r.Intn(9) {
		d.Rules = append(d.Rules, reads(r.Intn(d.States), r.Intn(d.States), slices.Clone(sets[r.Intn(len(sets))])))
	}
	for q := range d.States {
		if total {
			d.Rules = append(d.Rules, reads(q, r.Intn(d.States), all))
		}
		if r.Intn(2) == 0 {
			d.Finals = append(d.Finals, api.Final{From: q, Out: []api.Term{term.Const('x')}})
		}
	}
	return d
}

// P20.1, P20.2, P20.3: descriptions of all kinds, alike and not.
func TestMany(t *testing.T) {
	r := try{rand.New(rand.NewSource(20))}
	same, far, most := 0, 0, 0
	for i := range 1500 {
		in := api.Sort(1 + i%2)
		a, b := r.desc(in, i%3 == 0), r.desc(in, i%5 == 0)
		if i%7 == 0 {
			b = a
			b.Rules = slices.Clone(a.Rules)
			r.Shuffle(len(b.Rules), func(i, j int) { b.Rules[i], b.Rules[j] = b.Rules[j], b.Rules[i] })
		}
		if desc.Check(a) != api.OK || desc.Check(b) != api.OK {
			t.Fatalf("not well formed: %v", []api.Desc{a, b})
		}
		n, at := wantModel(t, a, b)
		wantFollows(t, a, b)
		most = max(most, n)
		if at < 0 {
			same++
		} else if at > 3 {
			far++
		}
	}
	if same < 100 || far < 15 || most < 20 {
		t.Errorf("few descriptions: %d, %d, %d", same, far, most)
	}
}
