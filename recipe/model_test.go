package recipe_test

import (
	"fmt"
	"math/rand"
	"slices"
	"strings"

	"umlaut/api"
	"umlaut/span"
)

// of writes a list by its bounds.
func of(bounds ...int) []api.Span {
	var l []api.Span
	for i := 0; i < len(bounds); i += 2 {
		l = append(l, api.Span{Lo: bounds[i], Hi: bounds[i+1]})
	}
	return l
}

// all is all scalars.
func all() []api.Span {
	return of(0, 0xd7ff, 0xe000, 0x10ffff)
}

// moved is a node that copies the symbols of a set, moved.
func moved(by int, set ...int) api.Recipe {
	return api.Recipe{Kind: api.KCopy, Set: of(set...), By: by}
}

// drop is a node that drops the symbols of a set.
func drop(set ...int) api.Recipe {
	return api.Recipe{Kind: api.KDrop, Set: of(set...)}
}

// pair is a node that reads one text and writes another one.
func pair(read, write string) api.Recipe {
	return api.Recipe{Kind: api.KPair, Read: []rune(read), Write: []rune(write)}
}

// same is a node that reads and writes a letter.
func same(x string) api.Recipe { return pair(x, x) }

func cat(l ...api.Recipe) api.Recipe  { return api.Recipe{Kind: api.KCat, L: l} }
func alt(l ...api.Recipe) api.Recipe  { return api.Recipe{Kind: api.KAlt, L: l} }
func many(l ...api.Recipe) api.Recipe { return api.Recipe{Kind: api.KMany, L: l} }

// text is a node as a text, whose nil and empty lists are one.
func text(n api.Recipe) string {
	return fmt.Sprintf("%+v", n)
}

// got is what may be read of a text from some place on: where that ends, and what it is.
type got[T any] struct {
	end  int
	what T
}

// model reads texts as the chapter's words say, in every way in which it may be done.
type model struct {
	w       []rune
	beyond  bool // was more asked for, where the text ended?
	greatBy bool // may By have a digit less than stand there?
}

// symbol is whether a symbol that is asked for stands at a place.
func (m *model) symbol(at int, fits func(x rune) bool) bool {
	if at == len(m.w) {
		m.beyond = true
		return false
	}
	return fits(m.w[at])
}

func (m *model) is(at int, x rune) bool {
	return m.symbol(at, func(y rune) bool { return x == y })
}

func (m *model) alternative(at, deep int) []got[api.Recipe] {
	return m.some(at, func(at int) []got[api.Recipe] { return m.row(at, deep) }, func(at int) (int, bool) { return at + 1, m.is(at, '|') }, api.KAlt)
}

// some is parts with something between, of more or less than one of which a node of a kind is made.
func (m *model) some(at int, part func(at int) []got[api.Recipe], between func(at int) (int, bool), kind int) []got[api.Recipe] {
	var out []got[api.Recipe]
	var more func(at int, l []api.Recipe)
	more = func(at int, l []api.Recipe) {
		for _, p := range part(at) {
			parts := append(slices.Clip(l), p.what)
			n := api.Recipe{Kind: kind, L: parts}
			if len(parts) == 1 {
				n = p.what
			}
			out = append(out, got[api.Recipe]{p.end, n})
			if next, ok := between(p.end); ok {
				more(next, parts)
			}
		}
	}
	more(at, nil)
	return out
}

func (m *model) row(at, deep int) []got[api.Recipe] {
	none := []got[api.Recipe]{{at, cat()}}
	return append(none, m.some(at, func(at int) []got[api.Recipe] { return m.item(at, deep) }, func(at int) (int, bool) { return at, true }, api.KCat)...)
}

func (m *model) item(at, deep int) []got[api.Recipe] {
	var out []got[api.Recipe]
	for _, a := range m.atom(at, deep) {
		for out = append(out, a); m.is(a.end, '*'); out = append(out, a) {
			a = got[api.Recipe]{a.end + 1, many(a.what)}
		}
	}
	return out
}

func (m *model) atom(at, deep int) []got[api.Recipe] {
	var out []got[api.Recipe]
	if m.is(at, '(') && deep < 64 {
		for _, a := range m.alternative(at+1, deep+1) {
			if m.is(a.end, ')') {
				out = append(out, got[api.Recipe]{a.end + 1, a.what})
			}
		}
	}
	if m.is(at, '{') {
		for _, a := range m.letters(at + 1) {
			if !m.is(a.end, '>') {
				continue
			}
			for _, b := range m.letters(a.end + 1) {
				if m.is(b.end, '}') {
					out = append(out, got[api.Recipe]{b.end + 1, pair(a.what, b.what)})
				}
			}
		}
	}
	for _, x := range m.letter(at, true) {
		out = append(out, got[api.Recipe]{x.end, same(string(x.what))})
	}
	return append(out, m.class(at)...)
}

func (m *model) letters(at int) []got[string] {
	out := []got[string]{{at, ""}}
	for _, x := range m.letter(at, false) {
		for _, l := range m.letters(x.end) {
			out = append(out, got[string]{l.end, string(x.what) + l.what})
		}
	}
	return out
}

func (m *model) class(at int) []got[api.Recipe] {
	if m.is(at, '.') {
		return m.behindClass(at+1, all())
	}
	if !m.is(at, '[') {
		return nil
	}
	var out []got[api.Recipe]
	close := func(at int, set []api.Span) {
		if m.is(at, ']') && len(set) > 0 {
			out = append(out, m.behindClass(at+1, set)...)
		}
	}
	if m.is(at+1, ']') {
		out = append(out, got[api.Recipe]{at + 2, alt()})
	}
	for _, l := range m.ranges(at + 1) {
		close(l.end, span.Meet(all(), l.what))
	}
	if m.is(at+1, '^') {
		for _, l := range m.ranges(at + 2) {
			close(l.end, span.Minus(all(), l.what))
		}
	}
	return out
}

func (m *model) ranges(at int) []got[[]api.Span] {
	out := []got[[]api.Span]{{at, nil}}
	for _, x := range m.letter(at, false) {
		ends := []got[rune]{x}
		if m.is(x.end, '-') {
			for _, y := range m.letter(x.end+1, false) {
				if x.what <= y.what {
					ends = append(ends, y)
				}
			}
		}
		for _, y := range ends {
			for _, l := range m.ranges(y.end) {
				out = append(out, got[[]api.Span]{l.end, append(of(int(x.what), int(y.what)), l.what...)})
			}
		}
	}
	return out
}

func (m *model) behindClass(at int, set []api.Span) []got[api.Recipe] {
	copied := func(by int) api.Recipe { return api.Recipe{Kind: api.KCopy, Set: set, By: by} }
	out := []got[api.Recipe]{{at, copied(0)}}
	if m.is(at, '!') {
		out = append(out, got[api.Recipe]{at + 1, api.Recipe{Kind: api.KDrop, Set: set}})
	}
	if !m.is(at, '@') {
		return out
	}
	at++
	factor := 1
	if m.is(at, '-') {
		at, factor = at+1, -1
	}
	by := 0
	for first := at; at < first+7 && m.symbol(at, func(x rune) bool { return strings.ContainsRune("0123456789", x) }); at++ {
		by = 10*by + strings.IndexRune("0123456789", m.w[at])
		m.greatBy = m.greatBy || at > first
		out = append(out, got[api.Recipe]{at + 1, copied(factor * by)})
	}
	return out
}

func (m *model) letter(at int, outside bool) []got[rune] {
	const signs = "|*()[]{}@!.\\^>-"
	var out []got[rune]
	if m.symbol(at, func(x rune) bool { return x >= 32 && x != 127 && !strings.ContainsRune(signs, x) }) || outside && m.symbol(at, func(x rune) bool { return strings.ContainsRune("^>-", x) }) {
		out = append(out, got[rune]{at + 1, m.w[at]})
	}
	if !m.is(at, '\\') {
		return out
	}
	if m.symbol(at+1, func(x rune) bool { return strings.ContainsRune(signs, x) }) {
		out = append(out, got[rune]{at + 2, m.w[at+1]})
	}
	if m.is(at+1, 'n') {
		out = append(out, got[rune]{at + 2, 10})
	}
	if !m.is(at+1, 'u') || !m.is(at+2, '{') {
		return out
	}
	at += 3
	x := 0
	for first := at; at < first+6 && m.symbol(at, func(x rune) bool { return strings.ContainsRune("0123456789abcdefABCDEF", x) }); {
		x = 16*x + strings.IndexRune("0123456789abcdef", m.w[at]|0x20&^(m.w[at]>>1&0x10))
		at++
		if m.is(at, '}') && (x < 0xd800 || 0xe000 <= x && x <= 0x10ffff) {
			out = append(out, got[rune]{at + 1, rune(x)})
		}
	}
	return out
}

// reads is all nodes that a text may be read as, whether a recipe begins so, and whether there may be more than one node.
func reads(w []rune) ([]string, bool, bool) {
	m := model{w: w}
	var out []string
	for _, a := range m.alternative(0, 0) {
		if a.end == len(w) {
			out = append(out, text(a.what))
		}
	}
	return out, m.beyond || len(out) > 0, m.greatBy
}

// fault is the place at which a text has its fault; -1, if it is a recipe.
func fault(w []rune) int {
	for i := range w {
		if _, begins, _ := reads(w[:i+1]); !begins {
			return i
		}
	}
	if l, _, _ := reads(w); len(l) == 0 {
		return len(w)
	}
	return -1
}

// letter is how a letter is written.
func letter(x rune) string {
	switch {
	case strings.ContainsRune("|*()[]{}@!.\\^>-", x):
		return "\\" + string(x)
	case x == 10:
		return "\\n"
	case x < 32 || x == 127:
		return fmt.Sprintf("\\u{%x}", x)
	}
	return string(x)
}

func letters(w []rune) string {
	out := ""
	for _, x := range w {
		out += letter(x)
	}
	return out
}

// class is how a set is written.
func class(s []api.Span) string {
	if fmt.Sprint(s) == fmt.Sprint(all()) {
		return "."
	}
	out := "["
	for _, x := range s {
		out += letter(rune(x.Lo))
		if x.Hi > x.Lo {
			out += "-" + letter(rune(x.Hi))
		}
	}
	return out + "]"
}

// alternative is how a node is written as an alternative.
func alternative(n api.Recipe) string {
	if n.Kind != api.KAlt || len(n.L) < 2 {
		return row(n)
	}
	var rows []string
	for _, x := range n.L {
		rows = append(rows, row(x))
	}
	return strings.Join(rows, "|")
}

// row is how it is written as a row.
func row(n api.Recipe) string {
	if n.Kind != api.KCat || len(n.L) == 1 {
		return item(n)
	}
	return items(n.L)
}

func items(l []api.Recipe) string {
	out := ""
	for i, x := range l {
		s := item(x)
		if x.Kind == api.KCopy && x.By != 0 && i+1 < len(l) && strings.ContainsAny(item(l[i+1])[:1], "0123456789") {
			s = "(" + s + ")"
		}
		out += s
	}
	return out
}

// item is how it is written as an item.
func item(n api.Recipe) string {
	if n.Kind == api.KMany && len(n.L) == 1 {
		return atom(n.L[0]) + "*"
	}
	if n.Kind == api.KMany {
		return "(" + items(n.L) + ")*"
	}
	return atom(n)
}

// atom is how it is written as an atom.
func atom(n api.Recipe) string {
	switch {
	case n.Kind == api.KCopy && n.By == 0:
		return class(n.Set)
	case n.Kind == api.KCopy:
		return fmt.Sprintf("%s@%d", class(n.Set), n.By)
	case n.Kind == api.KDrop:
		return class(n.Set) + "!"
	case n.Kind == api.KPair && len(n.Read) == 1 && string(n.Read) == string(n.Write):
		return letters(n.Read)
	case n.Kind == api.KPair:
		return "{" + letters(n.Read) + ">" + letters(n.Write) + "}"
	case len(n.L) == 1 && n.Kind != api.KMany:
		return "(" + alternative(n.L[0]) + ")"
	case n.Kind == api.KAlt && len(n.L) == 0:
		return "[]"
	}
	return "(" + alternative(n) + ")"
}

// readBack is the node as which a node is read that was printed.
func readBack(n api.Recipe) api.Recipe {
	switch n.Kind {
	case api.KCopy:
		return api.Recipe{Kind: api.KCopy, Set: n.Set, By: n.By}
	case api.KDrop:
		return api.Recipe{Kind: api.KDrop, Set: n.Set}
	case api.KPair:
		return api.Recipe{Kind: api.KPair, Read: n.Read, Write: n.Write}
	}
	out := api.Recipe{Kind: n.Kind}
	for _, x := range n.L {
		out.L = append(out.L, readBack(x))
	}
	switch {
	case n.Kind == api.KMany && len(n.L) > 1:
		return many(cat(out.L...))
	case n.Kind != api.KMany && len(n.L) == 1:
		return out.L[0]
	}
	return out
}

// chance makes things by chance, the same ones each time.
type chance struct{ *rand.Rand }

// symbols is those of which words and sets are made.
const symbols = "abz059n|*()[]{}@!.\\^>-\n\x00\x1f \x7f\u0080ü\ud7ff\ue000\ufffd\U0010ffff"

func (r chance) word(n int) string {
	l := []rune(symbols)
	out := ""
	for range n {
		out += string(l[r.Intn(len(l))])
	}
	return out
}

func (r chance) set() []api.Span {
	if r.Intn(6) == 0 {
		return all()
	}
	var l []api.Span
	for range 1 + r.Intn(3) {
		ends := []rune(r.word(2))
		slices.Sort(ends)
		if r.Intn(2) == 0 {
			ends[1] = ends[0]
		}
		l = append(l, api.Span{Lo: int(ends[0]), Hi: int(ends[1])})
	}
	return span.Meet(l, all())
}

func (r chance) leaf() api.Recipe {
	switch r.Intn(6) {
	case 0:
		return api.Recipe{Kind: api.KDrop, Set: r.set(), By: r.Intn(2)}
	case 1, 2:
		return api.Recipe{Kind: api.KCopy, Set: r.set(), By: []int{0, 0, 1, -1, 12, -50, 1000000, -1000000}[r.Intn(8)]}
	case 3:
		return pair(r.word(r.Intn(3)), r.word(r.Intn(3)))
	case 4:
		return same(string("0123456789"[r.Intn(10)]))
	}
	return same(r.word(1))
}

// node is a node, right or not.
func (r chance) node(levels int) api.Recipe {
	if levels == 0 || r.Intn(4) == 0 {
		return r.leaf()
	}
	n := api.Recipe{Kind: []int{api.KCat, api.KAlt, api.KMany}[r.Intn(3)], By: r.Intn(2)}
	for range []int{0, 1, 1, 2, 2, 3}[r.Intn(6)] {
		n.L = append(n.L, r.node(levels-1))
	}
	return n
}
