package node_test

import (
	"fmt"
	"math/rand"
	"slices"
	"sort"

	"umlaut/api"
)

// of writes a list by its bounds.
func of(bounds ...int) []api.Span {
	var l []api.Span
	for i := 0; i < len(bounds); i += 2 {
		l = append(l, api.Span{Lo: bounds[i], Hi: bounds[i+1]})
	}
	return l
}

// moved is a node that copies the symbols of a set, moved.
func moved(by int, set ...int) api.Recipe {
	return api.Recipe{Kind: api.KCopy, Set: of(set...), By: by}
}

// drop is a node that drops the symbols of a set.
func drop(set ...int) api.Recipe {
	return api.Recipe{Kind: api.KDrop, Set: of(set...)}
}

// pair is a node that reads one text and writes another one.
func pair(read, write string) api.Recipe {
	return api.Recipe{Kind: api.KPair, Read: []rune(read), Write: []rune(write)}
}

func cat(l ...api.Recipe) api.Recipe  { return api.Recipe{Kind: api.KCat, L: l} }
func alt(l ...api.Recipe) api.Recipe  { return api.Recipe{Kind: api.KAlt, L: l} }
func many(l ...api.Recipe) api.Recipe { return api.Recipe{Kind: api.KMany, L: l} }

// deep is a node beneath so many others, which have nothing else in them.
func deep(n api.Recipe, above int, over ...int) api.Recipe {
	for i := range above {
		n = api.Recipe{Kind: over[i%len(over)], L: []api.Recipe{n}}
	}
	return n
}

// scalar tells whether a number is a scalar's.
func scalar(x int) bool {
	return 0 <= x && x < 0xd800 || 0xdfff < x && x <= 0x10ffff
}

// rightSet is the chapter's word; of each span the ends and what lies about the gap are enough.
func rightSet(s []api.Span, by int) bool {
	for i, x := range s {
		if x.Lo > x.Hi || i > 0 && x.Lo <= s[i-1].Hi+1 || x.Lo < 0xd800 && x.Hi > 0xdfff || x.Lo+by < 0xd800 && x.Hi+by > 0xdfff {
			return false
		}
		for _, y := range [...]int{x.Lo, x.Hi} {
			if !scalar(y) || by < -0x10ffff || by > 0x10ffff || !scalar(y+by) {
				return false
			}
		}
	}
	return 0 < len(s) && len(s) <= 64
}

// right is the chapter's word, of a node that is beneath so many others.
func right(n api.Recipe, above int) bool {
	if above > 64 {
		return false
	}
	switch n.Kind {
	case api.KCopy:
		return rightSet(n.Set, n.By)
	case api.KDrop:
		return rightSet(n.Set, 0)
	case api.KPair:
		return !slices.ContainsFunc(slices.Concat(n.Read, n.Write), func(x rune) bool { return !scalar(int(x)) })
	case api.KCat, api.KAlt, api.KMany:
		for _, x := range n.L {
			if !right(x, above+1) {
				return false
			}
		}
		return n.Kind != api.KMany || !null(cat(n.L...))
	}
	return false
}

// null tells whether a node relates the input without symbols to something.
func null(n api.Recipe) bool {
	return len(ends(n, nil)) > 0
}

// size is the chapter's word, of a node that isn't too great.
func size(n api.Recipe) int {
	all := 1 + len(n.Read) + len(n.Write)
	for _, x := range n.L {
		all += size(x)
	}
	return all
}

// end is where a node may end within a word, and what it wrote till then.
type end struct {
	gone int
	out  string
}

// ends is all ends of a node from a word's beginning on.
func ends(n api.Recipe, x []rune) map[end]int {
	out := map[end]int{}
	has := func() bool {
		return len(x) > 0 && slices.ContainsFunc(n.Set, func(s api.Span) bool { return s.Lo <= int(x[0]) && int(x[0]) <= s.Hi })
	}
	switch n.Kind {
	case api.KCopy:
		if has() {
			out[end{1, string(x[0] + rune(n.By))}] = 1
		}
	case api.KDrop:
		if has() {
			out[end{1, ""}] = 1
		}
	case api.KPair:
		if len(n.Read) <= len(x) && slices.Equal(n.Read, x[:len(n.Read)]) {
			out[end{len(n.Read), string(n.Write)}] = 1
		}
	case api.KCat:
		out[end{}] = 1
		for _, y := range n.L {
			out = behind(out, y, x)
		}
	case api.KAlt:
		for _, y := range n.L {
			for e := range ends(y, x) {
				out[e] = 1
			}
		}
	case api.KMany:
		for round := (map[end]int{{}: 1}); len(round) > 0; round = behind(round, cat(n.L...), x) {
			for e := range round {
				out[e] = 1
			}
		}
	}
	return out
}

// behind is all ends of a node from some ends on.
func behind(from map[end]int, n api.Recipe, x []rune) map[end]int {
	out := map[end]int{}
	for a := range from {
		for b := range ends(n, x[a.gone:]) {
			out[end{a.gone + b.gone, a.out + b.out}] = 1
		}
	}
	return out
}

// model is all that a node relates an input to, in the order of words.
func model(n api.Recipe, x []rune) []string {
	var out []string
	for e := range ends(n, x) {
		if e.gone == len(x) {
			out = append(out, e.out)
		}
	}
	// The bytes of scalars' texts are in the order of scalars.
	sort.Strings(out)
	return out
}

// chance makes things by chance, the same ones each time.
type chance struct{ *rand.Rand }

// symbols is those of which inputs are made.
const symbols = "ab\U0001f600"

func (r chance) word(of string, n int) []rune {
	l := []rune(of)
	var w []rune
	for range n {
		w = append(w, l[r.Intn(len(l))])
	}
	return w
}

func (r chance) leaf() api.Recipe {
	sets := [][]int{{'a', 'a'}, {'a', 'b'}, {'b', 'b', 0x1f600, 0x1f600}, {0, 0xd7ff, 0xe000, 0x10ffff}}
	switch r.Intn(5) {
	case 0:
		return moved([]int{0, 0, 1, -1}[r.Intn(4)], sets[r.Intn(3)]...)
	case 1:
		return moved(0, sets[r.Intn(4)]...)
	case 2:
		return drop(sets[r.Intn(4)]...)
	}
	return pair(string(r.word(symbols, []int{0, 1, 1, 1, 2, 3}[r.Intn(6)])), string(r.word("xy", r.Intn(3))))
}

// node is a node, right or, since it may be that a KMany's L relate no symbols to something, not.
func (r chance) node(levels int) api.Recipe {
	if levels == 0 || r.Intn(4) == 0 {
		return r.leaf()
	}
	n := api.Recipe{Kind: []int{api.KCat, api.KAlt, api.KMany}[r.Intn(3)]}
	for range []int{0, 1, 1, 2, 2, 2, 3}[r.Intn(7)] {
		n.L = append(n.L, r.node(levels-1))
	}
	return n
}

// rightNode is a node that is right.
func (r chance) rightNode(levels int) api.Recipe {
	if levels == 0 || r.Intn(4) == 0 {
		return r.leaf()
	}
	n := api.Recipe{Kind: []int{api.KCat, api.KAlt, api.KMany, api.KMany}[r.Intn(4)]}
	for range []int{0, 1, 1, 2, 2, 2, 3}[r.Intn(7)] {
		n.L = append(n.L, r.rightNode(levels-1))
	}
	if n.Kind == api.KMany && null(cat(n.L...)) {
		n.L = append(n.L, pair("a", "z"))
	}
	return n
}

// text is a node as a text.
func text(n api.Recipe) string {
	return fmt.Sprintf("%+v", n)
}
