package word_test

import (
	"bytes"
	"math"
	"slices"
	"testing"
	"unicode/utf8"

	"umlaut/api"
	"umlaut/span"
	"umlaut/word"
)

// edges is symbols at the ends of the sorts, and beyond them.
var edges = []rune{math.MinInt32, -256, -1, 0, 1, 0x7f, 0x80, 0xff, 0x100, 0x1ff, 0xd7ff, 0xd800, 0xdbff, 0xdc00, 0xdfff, 0xe000, 0xfffd, 0xffff, 0x10000, 0x10ffff, 0x110000, math.MaxInt32}

// isScalar, isByte: the chapter's words.
func isScalar(x rune) bool {
	return 0 <= x && x <= 0x10ffff && !(0xd800 <= x && x <= 0xdfff)
}

func isByte(x rune) bool {
	return 0 <= x && x <= 255
}

// words is all words of at most so many of the symbols.
func words(of []rune, most int) [][]rune {
	out := [][]rune{nil}
	for from := 0; most > 0; most-- {
		to := len(out)
		for ; from < to; from++ {
			for _, x := range of {
				out = append(out, append(slices.Clone(out[from]), x))
			}
		}
	}
	return out
}

// P2.1
func TestOf(t *testing.T) {
	for _, c := range []struct {
		s    string
		want []rune
	}{
		{"", nil},
		{"abc", []rune{'a', 'b', 'c'}},
		{"a\xff\u00fc", []rune{'a', 0xfffd, 0xfc}},
		{"\x00\u07ff\u0800\uffff\U00010000\U0010ffff", []rune{0, 0x7ff, 0x800, 0xffff, 0x10000, 0x10ffff}},
		{"\ufeff\ufffd", []rune{0xfeff, 0xfffd}},
		{"\xe2\x82b", []rune{0xfffd, 0xfffd, 'b'}},
		{"\xe2\x82", []rune{0xfffd, 0xfffd}},
		{"\xed\xa0\x80", []rune{0xfffd, 0xfffd, 0xfffd}},
		{"\xc0\x80", []rune{0xfffd, 0xfffd}},
		{"\xf4\x90\x80\x80", []rune{0xfffd, 0xfffd, 0xfffd, 0xfffd}},
		{"\x80\xbf\xc3\xbc", []rune{0xfffd, 0xfffd, 0xfc}},
	} {
		if got := word.Of(c.s); !slices.Equal(got, c.want) {
			t.Errorf("Of(%q): %x, not %x", c.s, got, c.want)
		}
	}
}

// P2.1: all texts of three of the bytes that are of a kind of their own.
func TestOfBytes(t *testing.T) {
	kinds := []byte{0, 'a', 0x7f, 0x80, 0x8f, 0x90, 0x9f, 0xa0, 0xbf, 0xc1, 0xc2, 0xdf, 0xe0, 0xe1, 0xed, 0xee, 0xf0, 0xf1, 0xf4, 0xf5, 0xff}
	for _, a := range kinds {
		for _, b := range kinds {
			for _, c := range kinds {
				s := string([]byte{a, b, c})
				var want []rune
				for rest := s; rest != ""; {
					x, n := utf8.DecodeRuneInString(rest)
					want, rest = append(want, x), rest[n:]
				}
				if got := word.Of(s); !slices.Equal(got, want) {
					t.Fatalf("Of(%q): %x, not %x", s, got, want)
				}
			}
		}
	}
}

// P2.1: one symbol that is no scalar, wherever it stands, and there is no text.
func TestText(t *testing.T) {
	if s, ok := word.Text(nil); s != "" || !ok {
		t.Errorf("Text of no symbols: %q, %v", s, ok)
	}
	for _, w := range words(edges, 3) {
		want, yes := "", true
		for _, x := range w {
			if !isScalar(x) {
				yes = false
			}
			want = string(utf8.AppendRune([]byte(want), x))
		}
		if !yes {
			want = ""
		}
		if s, ok := word.Text(w); s != want || ok != yes {
			t.Fatalf("Text(%x): %q, %v", w, s, ok)
		}
	}
}

// P2.2
func TestRaw(t *testing.T) {
	if w := word.Raw(nil); len(w) != 0 {
		t.Errorf("Raw of no bytes: %x", w)
	}
	var b []byte
	var want []rune
	for x := 255; x >= 0; x-- {
		b, want = append(b, byte(x)), append(want, rune(x))
	}
	if w := word.Raw(b); !slices.Equal(w, want) {
		t.Errorf("Raw: %x", w)
	}
}

// P2.2: one symbol that is no byte, wherever it stands, and there are none.
func TestBytes(t *testing.T) {
	if b, ok := word.Bytes(nil); len(b) != 0 || !ok {
		t.Errorf("Bytes of no symbols: %x, %v", b, ok)
	}
	for _, w := range words(edges, 3) {
		var want []byte
		yes := true
		for _, x := range w {
			yes = yes && isByte(x)
			want = append(want, byte(x))
		}
		if !yes {
			want = nil
		}
		if b, ok := word.Bytes(w); !bytes.Equal(b, want) || ok != yes {
			t.Fatalf("Bytes(%x): %x, %v", w, b, ok)
		}
	}
}

// P2.3
func TestDomain(t *testing.T) {
	for _, c := range []struct {
		s    api.Sort
		want []api.Span
	}{
		{api.Bytes, []api.Span{{Lo: 0, Hi: 255}}},
		{api.Scalars, []api.Span{{Lo: 0, Hi: 0xd7ff}, {Lo: 0xe000, Hi: 0x10ffff}}},
		{0, nil}, {3, nil}, {-1, nil}, {math.MaxInt, nil}, {math.MinInt, nil},
	} {
		got := word.Domain(c.s)
		if !slices.Equal(got, c.want) || !span.Check(got) {
			t.Errorf("Domain(%d): %v", c.s, got)
		}
		for i := range got {
			got[i] = api.Span{Lo: 7, Hi: 7}
		}
		if !slices.Equal(word.Domain(c.s), c.want) {
			t.Errorf("Domain(%d), once more, is what was written into the first one", c.s)
		}
	}
}

// P2.3: each symbol, and some that are none.
func TestIn(t *testing.T) {
	check := func(x rune) {
		if word.In(api.Bytes, x) != isByte(x) || word.In(api.Scalars, x) != isScalar(x) || word.In(0, x) || word.In(3, x) || word.In(-1, x) {
			t.Fatalf("In of %x", x)
		}
	}
	for x := rune(-300); x <= 0x110100; x++ {
		check(x)
	}
	for _, x := range edges {
		check(x)
	}
}

// P2.3
func TestFits(t *testing.T) {
	for _, w := range words(edges, 3) {
		scalars, all := !slices.ContainsFunc(w, func(x rune) bool { return !isScalar(x) }), !slices.ContainsFunc(w, func(x rune) bool { return !isByte(x) })
		if word.Fits(api.Scalars, w) != scalars || word.Fits(api.Bytes, w) != all {
			t.Fatalf("Fits of %x", w)
		}
		// Of another sort there is no symbol: so just the word without any fits.
		for _, s := range []api.Sort{-1, 0, 3} {
			if word.Fits(s, w) != (len(w) == 0) {
				t.Fatalf("Fits(%d, %x)", s, w)
			}
		}
	}
}

// order is the chapter's word for which of two comes first.
func order(a, b []rune) int {
	for i := range min(len(a), len(b)) {
		if a[i] < b[i] {
			return -1
		}
		if a[i] > b[i] {
			return 1
		}
	}
	switch {
	case len(a) < len(b):
		return -1
	case len(a) > len(b):
		return 1
	}
	return 0
}

// P2.4
func TestCompareAndFront(t *testing.T) {
	if word.Compare([]rune("ab"), []rune("abc")) != -1 || word.Compare([]rune("b"), []rune("abc")) != 1 || word.Compare(nil, []rune{}) != 0 {
		t.Error("Compare")
	}
	if word.Front([]rune("ab"), []rune("abc")) != 2 || word.Front([]rune("abc"), []rune("axc")) != 1 || word.Front(nil, []rune("a")) != 0 {
		t.Error("Front")
	}
	all := words([]rune{math.MinInt32, -1, 0, 'a', math.MaxInt32}, 3)
	for _, a := range all {
		for _, b := range all {
			if got := word.Compare(a, b); got != order(a, b) {
				t.Fatalf("Compare(%x, %x): %d", a, b, got)
			}
			n := word.Front(a, b)
			if n > min(len(a), len(b)) || !slices.Equal(a[:n], b[:n]) || n < min(len(a), len(b)) && a[n] == b[n] {
				t.Fatalf("Front(%x, %x): %d", a, b, n)
			}
		}
	}
}

// P2.4
func TestSort(t *testing.T) {
	if l := word.Sort(nil); len(l) != 0 {
		t.Errorf("Sort of no words: %x", l)
	}
	same := func(a, b [][]rune) bool { return slices.EqualFunc(a, b, slices.Equal[[]rune]) }
	got := word.Sort([][]rune{[]rune("b"), {}, []rune("ab"), nil, []rune("a"), []rune("b"), {-1}, []rune("abc"), []rune("ab")})
	if !same(got, [][]rune{nil, {-1}, []rune("a"), []rune("ab"), []rune("abc"), []rune("b")}) {
		t.Errorf("Sort: %x", got)
	}
	all := words([]rune{-1, 0, 'a'}, 3)
	want := slices.Clone(all)
	slices.SortFunc(want, order)
	// Each word thrice, in an order that isn't theirs; 17 has no factor in common with how many there are.
	var mixed [][]rune
	for i := range 3 * len(all) {
		mixed = append(mixed, all[i*17%len(all)])
	}
	if got := word.Sort(mixed); !same(got, want) {
		t.Errorf("Sort of %d words: %x", len(mixed), got)
	}
}

// P2.5
func TestBack(t *testing.T) {
	var all []rune
	for x := range rune(0x110000) {
		if isScalar(x) {
			all = append(all, x)
		}
	}
	s, ok := word.Text(all)
	if !ok || !slices.Equal(word.Of(s), all) {
		t.Error("words that become texts don't come back")
	}
	for x := range 256 {
		for y := range 256 {
			w := []rune{rune(x), rune(y)}
			b, ok := word.Bytes(w)
			if !ok || !slices.Equal(word.Raw(b), w) {
				t.Fatalf("%x, made bytes, doesn't come back", w)
			}
			s, ok := word.Text(w)
			if !ok || !slices.Equal(word.Of(s), w) {
				t.Fatalf("%x, made a text, doesn't come back", w)
			}
		}
	}
}

// Rule 4: what is handed in isn't changed, its spare room neither; what is answered is new memory, of which no two words share any.
func TestMemory(t *testing.T) {
	base := []rune("abcabcxyz")
	l := [][]rune{base[3:6], base[0:3], base[1:3], base[0:2], base[6:7]}[:4]
	got := word.Sort(l)
	if string(base) != "abcabcxyz" || string(l[0]) != "abc" || &l[0][0] != &base[3] || string(l[:5][4]) != "x" {
		t.Error("Sort has changed what was handed in")
	}
	for i := range got {
		got[i] = append(got[i], '!', '!', '!')
		for j := range got[i] {
			got[i][j] = rune('0' + i)
		}
	}
	_ = append(got, []rune("!"))
	if string(base) != "abcabcxyz" || string(l[:5][4]) != "x" {
		t.Error("what Sort answers is what was handed in")
	}
	for i, w := range got {
		for _, x := range w {
			if x != rune('0'+i) {
				t.Errorf("two words that Sort answers share memory: %q", w)
			}
		}
	}
	w, b := []rune("abc"), []byte("abc")
	out, _ := word.Bytes(w)
	raw := word.Raw(b)
	out[0], raw[0] = 'x', 'x'
	if string(w) != "abc" || string(b) != "abc" {
		t.Error("Bytes, Raw have changed what was handed in")
	}
}
