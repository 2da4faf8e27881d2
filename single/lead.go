package single

import (
	"slices"

	"umlaut/api"
	"umlaut/span"
)

// lead is what one of the two has written and the other one hasn't yet. All ahead of that both wrote alike; it itself hangs on nothing that was read, as the other one, which has forgotten that, couldn't come up with it any more.
type lead struct {
	side  int
	n     int    // how many symbols
	words [2]int // what each has written, behind the last letter that hung on what was read
}

// meeting is a rule of each of the two, that both read some symbols.
type meeting struct {
	rules [2]*rule
	to    int        // the pair of states to which they lead
	both  []api.Span // these symbols, if they were asked for
}

// set is the symbols that both rules read.
func (m *meeting) set() []api.Span {
	if m.both == nil {
		m.both = span.Meet(m.rules[0].guard, m.rules[1].guard)
	}
	return m.both
}

// sameLead tells whether two leads are the same.
func (s *store) sameLead(a, b lead) bool {
	if a.n != b.n || a.n > 0 && a.side != b.side {
		return false
	}
	return s.same(a.words[a.side], b.words[a.side], a.n)
}

// endAlike tells whether two texts, one of each, come to the same behind a lead.
func (s *store) endAlike(l lead, ends [2][]rune) bool {
	front, back := ends[l.side], ends[1-l.side]
	if l.n+len(front) != len(back) {
		return false
	}
	return slices.Equal(s.first(l, l.n), back[:l.n]) && slices.Equal(front, back[l.n:])
}

// first is the first n symbols of a lead.
func (s *store) first(l lead, n int) []rune {
	word := l.words[l.side]
	from := s.marks[word].size - l.n
	return s.cut(word, from, from+n)
}

// after is the lead behind a meeting; or, if what the two write tells them apart, or may do so further on, one or two symbols of the meeting: with one of these, whatever follows, it does.
func (c *course) after(l lead, m *meeting) (lead, []rune) {
	front, back := m.rules[l.side].out, m.rules[1-l.side].out
	held := c.store.first(l, min(l.n, len(back)))
	for i, y := range back[:min(len(back), l.n+len(front))] {
		var x letter
		if i < len(held) {
			x = fixed(held[i])
		} else {
			x = front[i-l.n]
		}
		if told, ok := c.unlike(x, y, m); ok {
			return lead{}, []rune{told}
		}
	}
	out := lead{side: l.side, n: l.n + len(front) - len(back)}
	if out.n < 0 {
		out.side, out.n = 1-l.side, -out.n
	}
	if out.n == 0 && c.number[m.to] != none {
		// What was written counts for nothing: they have come there before.
		return out, nil
	}
	for side, r := range m.rules {
		n := 0
		if side == out.side {
			n = min(out.n, len(r.out))
		}
		word, told := c.written(l.words[side], r, n, m)
		if len(told) > 0 {
			return lead{}, told
		}
		out.words[side] = word
	}
	return out, nil
}

// written is a word with what a rule writes behind it, of which the last n letters are to be known; or, if one hangs on the symbol, two symbols of which it is unlike.
func (c *course) written(word int, r *rule, n int, m *meeting) (int, []rune) {
	if r.text != none {
		return c.store.put(word, r.text), nil
	}
	letters, told := c.known(r.out, n, m)
	if len(told) > 0 {
		return noWord, told
	}
	text := tail(letters)
	if len(text) < len(letters) {
		word = noWord
	}
	return c.store.put(word, c.store.text(text)), nil
}
