package utf_test

import (
	"fmt"
	"math"
	"math/rand"
	"slices"
	"testing"
	"unicode/utf8"

	"umlaut/api"
	"umlaut/utf"
)

// at writes the set of the bytes from lo to hi.
func at(lo, hi int) []api.Span { return []api.Span{{Lo: lo, Hi: hi}} }

// nine is the chapter's rows, one by one.
func nine() [][][]api.Span {
	return [][][]api.Span{
		{at(0x00, 0x7f)},
		{at(0xc2, 0xdf), at(0x80, 0xbf)},
		{at(0xe0, 0xe0), at(0xa0, 0xbf), at(0x80, 0xbf)},
		{at(0xe1, 0xec), at(0x80, 0xbf), at(0x80, 0xbf)},
		{at(0xed, 0xed), at(0x80, 0x9f), at(0x80, 0xbf)},
		{at(0xee, 0xef), at(0x80, 0xbf), at(0x80, 0xbf)},
		{at(0xf0, 0xf0), at(0x90, 0xbf), at(0x80, 0xbf), at(0x80, 0xbf)},
		{at(0xf1, 0xf3), at(0x80, 0xbf), at(0x80, 0xbf), at(0x80, 0xbf)},
		{at(0xf4, 0xf4), at(0x80, 0x8f), at(0x80, 0xbf), at(0x80, 0xbf)},
	}
}

// sequences tells all well-formed sequences, by the chapter's rows.
func sequences(tell func(s []byte)) {
	var more func(s []byte, sets [][]api.Span)
	more = func(s []byte, sets [][]api.Span) {
		if len(sets) == 0 {
			tell(s)
			return
		}
		for x := sets[0][0].Lo; x <= sets[0][0].Hi; x++ {
			more(append(s, byte(x)), sets[1:])
		}
	}
	for _, sets := range nine() {
		more(make([]byte, 0, 4), sets)
	}
}

// value is a well-formed sequence's scalar, by the chapter's words.
func value(s []byte) rune {
	x := rune(s[0]) % []rune{1 << 7, 1 << 5, 1 << 4, 1 << 3}[len(s)-1]
	for _, b := range s[1:] {
		x = x*(1<<6) + rune(b)%(1<<6)
	}
	return x
}

// P10.1
func TestRows(t *testing.T) {
	if got := utf.Rows(); fmt.Sprint(got) != fmt.Sprint(nine()) {
		t.Errorf("Rows: %v", got)
	}
}

// P10.1: all scalars, and what is none.
func TestEncode(t *testing.T) {
	for x := rune(0); x <= api.MaxRune; x++ {
		got := utf.Encode(x)
		if x >= 0xd800 && x <= 0xdfff {
			if len(got) > 0 {
				t.Fatalf("Encode(%x): % x", x, got)
			}
			continue
		}
		// The language's own conversion writes UTF-8.
		if string(got) != string(x) {
			t.Fatalf("Encode(%x): % x", x, got)
		}
	}
	for _, x := range []rune{-1, -0xfffd, math.MinInt32, api.MaxRune + 1, 0x200000, math.MaxInt32} {
		if got := utf.Encode(x); len(got) > 0 {
			t.Errorf("Encode(%x): % x", x, got)
		}
	}
	for x, want := range map[rune]string{
		0: "\x00", 0x7f: "\x7f", 0x80: "\xc2\x80", 0x7ff: "\xdf\xbf", 0x800: "\xe0\xa0\x80", 0xd7ff: "\xed\x9f\xbf", 0xe000: "\xee\x80\x80", 0xfffd: "\xef\xbf\xbd",
		0xffff: "\xef\xbf\xbf", 0x10000: "\xf0\x90\x80\x80", 0x10ffff: "\xf4\x8f\xbf\xbf",
	} {
		if got := utf.Encode(x); string(got) != want {
			t.Errorf("Encode(%x): % x", x, got)
		}
	}
}

// P10.1, P10.2, P10.4: each well-formed sequence, which is each scalar's, once; cut off it is a part.
func TestSequences(t *testing.T) {
	var seen [api.MaxRune + 1]int
	n := 0
	sequences(func(s []byte) {
		n++
		x := value(s)
		seen[x]++
		if got := utf.Encode(x); string(got) != string(s) {
			t.Fatalf("Encode(%x): % x, not % x", x, got, s)
		}
		wantScan(t, s, 0, x, len(s), true)
		if k := len(s) - 1; k > 0 {
			wantScan(t, s[:k], 0, 0xfffd, k, false)
		}
	})
	if n != api.MaxRune+1-0x800 {
		t.Errorf("%d sequences", n)
	}
	for x, k := range seen {
		if scalar := x < 0xd800 || x > 0xdfff; scalar != (k == 1) || k > 1 {
			t.Fatalf("%x has %d sequences", x, k)
		}
	}
}

func wantScan(t *testing.T, b []byte, at int, x rune, n int, ok bool) {
	t.Helper()
	if y, m, yes := utf.Scan(b, at); y != x || m != n || yes != ok {
		t.Fatalf("Scan(% x, %d): %x, %d, %v, not %x, %d, %v", b, at, y, m, yes, x, n, ok)
	}
}

// model knows all that begins a well-formed sequence, and isn't one.
type model struct{ fronts map[string]int }

func newModel() model {
	m := model{map[string]int{}}
	sequences(func(s []byte) {
		for n := 1; n < len(s); n++ {
			if m.fronts[string(s[:n])] == 0 {
				m.fronts[string(s[:n])] = n
			}
		}
	})
	return m
}

// scan is what Scan is to answer of the first place, by the chapter's words.
func (m model) scan(b []byte) (rune, int, bool) {
	for n := 1; n <= min(4, len(b)); n++ {
		// The library's checks hold to the standard's table, too.
		if s := b[:n]; utf8.Valid(s) && utf8.RuneCount(s) == 1 {
			return value(s), n, true
		}
	}
	longest := 1
	for n := 1; n <= min(3, len(b)); n++ {
		longest = max(longest, m.fronts[string(b[:n])])
	}
	return 0xfffd, longest, false
}

// repair is what Repair is to answer, and whether there are no parts.
func (m model) repair(b []byte) ([]rune, bool) {
	var out []rune
	valid := true
	for len(b) > 0 {
		x, n, ok := m.scan(b)
		out, valid, b = append(out, x), valid && ok, b[n:]
	}
	return out, valid
}

// edges is the bytes at which the rows begin or are over, those next to them, and some between.
func edges() []byte {
	return []byte{
		0x00, 0x41, 0x7f, 0x80, 0x8f, 0x90, 0x9f, 0xa0, 0xbf, 0xc0, 0xc1, 0xc2, 0xc3, 0xdf, 0xe0, 0xe1, 0xe2, 0xec, 0xed, 0xee, 0xef,
		0xf0, 0xf1, 0xf3, 0xf4, 0xf5, 0xf8, 0xfc, 0xff,
	}
}

// words tells all words of up to so many bytes.
func words(bytes []byte, most int, tell func(b []byte)) {
	var more func(b []byte)
	more = func(b []byte) {
		tell(b)
		if len(b) == most {
			return
		}
		for _, x := range bytes {
			more(append(b, x))
		}
	}
	more(make([]byte, 0, most))
}

// wantAll asks all calls of some bytes.
func wantAll(t *testing.T, m model, b []byte) {
	t.Helper()
	if len(b) > 0 {
		x, n, ok := m.scan(b)
		wantScan(t, b, 0, x, n, ok)
	}
	want, valid := m.repair(b)
	if got := utf.Repair(b); !slices.Equal(got, want) {
		t.Fatalf("Repair(% x): %x, not %x", b, got, want)
	}
	if got := utf.Valid(b); got != valid {
		t.Fatalf("Valid(% x): %v", b, got)
	}
	if !valid {
		want = nil
	}
	if got, ok := utf.Decode(b); !slices.Equal(got, want) || ok != valid {
		t.Fatalf("Decode(% x): %x, %v, not %x, %v", b, got, ok, want, valid)
	}
}

// P10.2, P10.3: all pairs of bytes, words of four bytes at which the rows part, of five where lists begin like sequences.
func TestModel(t *testing.T) {
	m := newModel()
	var all []byte
	for x := range 256 {
		all = append(all, byte(x))
	}
	tell := func(b []byte) { wantAll(t, m, b) }
	words(all, 2, tell)
	words(edges(), 4, tell)
	words([]byte{0x61, 0x80, 0x90, 0xa0, 0xbf, 0xe0, 0xe2, 0xed, 0xf0, 0xf4}, 5, tell)
	r := rand.New(rand.NewSource(10))
	for range 20000 {
		var b []byte
		for range r.Intn(12) {
			switch r.Intn(3) {
			case 0:
				b = append(b, edges()[r.Intn(len(edges()))])
			case 1:
				b = append(b, byte(r.Intn(256)))
			default:
				b = append(b, utf.Encode(rune(r.Intn(1<<(1+r.Intn(20)))))...)
			}
		}
		tell(b)
	}
}

// P10.3: the chapter's examples, and the standard's own.
func TestRepair(t *testing.T) {
	const bad = 0xfffd
	for _, c := range []struct {
		b    string
		want []rune
	}{
		{"\x61\xe2\x82\x62", []rune{0x61, bad, 0x62}},
		{"\xf0\x80\x80", []rune{bad, bad, bad}},
		{"\xf0\x90\x80", []rune{bad}},
		{"\xc0\xaf\xe0\x80\xbf\xf0\x81\x82\x41", []rune{bad, bad, bad, bad, bad, bad, bad, bad, 0x41}},
		{"\xed\xa0\x80\xed\xbf\xbf\xed\xaf\x41", []rune{bad, bad, bad, bad, bad, bad, bad, bad, 0x41}},
		{"\xf4\x91\x92\x93\xff\x41\x80\xbf\x42", []rune{bad, bad, bad, bad, bad, 0x41, bad, bad, 0x42}},
		{"\xe1\x80\xe2\xf0\x91\x92\xf1\xbf\x41", []rune{bad, bad, bad, bad, 0x41}},
		{"\xef\xbf\xbd\xef\xbf", []rune{bad, bad}},
		{"\xc3", []rune{bad}},
		{"\xc3\xc3\xbc\xbc", []rune{bad, 0xfc, bad}},
		{"\xf1\x80\x80\x80\x80", []rune{0x40000, bad}},
		{"\xf8\x88\x80\x80\x80", []rune{bad, bad, bad, bad, bad}},
		{"", nil},
	} {
		if got := utf.Repair([]byte(c.b)); !slices.Equal(got, c.want) {
			t.Errorf("Repair(% x): %x, not %x", c.b, got, c.want)
		}
	}
}

// P10.3: what is told of valid bytes, FFFD's own ones among them, and of none.
func TestDecode(t *testing.T) {
	w := []rune{'a', 0xfc, 0xfffd, 0x20ac, 0, 0x1f600, 0x10ffff, 0xd7ff, 0xe000}
	if got, ok := utf.Decode([]byte(string(w))); !slices.Equal(got, w) || !ok || !utf.Valid([]byte(string(w))) {
		t.Errorf("Decode: %x, %v", got, ok)
	}
	for _, s := range []string{"ab\xff", "\x80ab", "a\xed\xa0\x80", "\xc0\x80", "\xf4\x90\x80\x80", "ab\xc3"} {
		if got, ok := utf.Decode([]byte(s)); len(got) > 0 || ok || utf.Valid([]byte(s)) {
			t.Errorf("Decode(% x): %x, %v", s, got, ok)
		}
	}
	for _, b := range [][]byte{nil, {}} {
		if got, ok := utf.Decode(b); len(got) > 0 || !ok || !utf.Valid(b) || len(utf.Repair(b)) > 0 {
			t.Errorf("Decode of nothing: %x, %v", got, ok)
		}
	}
}

// P10.2: places within, and those that are none.
func TestPlaces(t *testing.T) {
	b := []byte("a\xc3\xbc\xe2\x82b\xe2\x82\xac")
	for i, c := range []struct {
		x  rune
		n  int
		ok bool
	}{{'a', 1, true}, {0xfc, 2, true}, {0xfffd, 1, false}, {0xfffd, 2, false}, {0xfffd, 1, false}, {'b', 1, true}, {0x20ac, 3, true}, {0xfffd, 1, false}, {0xfffd, 1, false}} {
		wantScan(t, b, i, c.x, c.n, c.ok)
	}
	for _, i := range []int{-1, len(b), len(b) + 1, math.MinInt, math.MaxInt} {
		wantScan(t, b, i, 0, 0, false)
		wantScan(t, nil, i, 0, 0, false)
	}
	wantScan(t, nil, 0, 0, 0, false)
	// What lies in the room behind the bytes counts for nothing.
	wantScan(t, b[:2], 1, 0xfffd, 1, false)
	wantScan(t, b[:8], 6, 0xfffd, 2, false)
}

// P10.4
func TestLaws(t *testing.T) {
	r := rand.New(rand.NewSource(104))
	valid := 0
	for range 20000 {
		var ahead, b []byte
		for range r.Intn(5) {
			ahead = append(ahead, utf.Encode(rune(r.Intn(1<<(1+r.Intn(20)))))...)
		}
		for range r.Intn(5) {
			b = append(b, edges()[r.Intn(len(edges()))])
		}
		w, ok := utf.Decode(ahead)
		if !ok {
			t.Fatalf("Decode(% x): %x, %v", ahead, w, ok)
		}
		if got := utf.Repair(slices.Concat(ahead, b)); !slices.Equal(got, slices.Concat(w, utf.Repair(b))) {
			t.Fatalf("Repair(% x | % x): %x", ahead, b, got)
		}
		var back []byte
		for _, x := range utf.Repair(b) {
			back = append(back, utf.Encode(x)...)
		}
		if utf.Valid(b) != slices.Equal(back, b) {
			t.Fatalf("Valid(% x): %v; repaired: % x", b, utf.Valid(b), back)
		}
		if len(b) > 0 && utf.Valid(b) {
			valid++
		}
	}
	if valid < 200 {
		t.Errorf("few bytes are valid: %d", valid)
	}
}

// Rule 4: what is handed in isn't changed; what is answered is new memory, of which no two lists share any.
func TestMemory(t *testing.T) {
	rows := utf.Rows()
	for i, sets := range rows {
		_ = append(sets, at(66, 66))
		for j, s := range sets {
			_ = append(s, api.Span{Lo: -7})
			s[0] = api.Span{Lo: -7}
			if fmt.Sprint(rows[i][j+1:], rows[i+1:]) != fmt.Sprint(nine()[i][j+1:], nine()[i+1:]) {
				t.Fatalf("Rows shares memory: %v", rows)
			}
		}
	}
	if again := utf.Rows(); fmt.Sprint(again) != fmt.Sprint(nine()) {
		t.Errorf("Rows once more: %v", again)
	}
	b := []byte("a\xc3\xbc\xe2\x82bXY")
	for range 2 {
		w := utf.Repair(b[:6])
		if utf.Scan(b[:6], 3); !slices.Equal(w, []rune{'a', 0xfc, 0xfffd, 'b'}) || utf.Valid(b[:6]) {
			t.Errorf("Repair: %x", w)
		}
		v, _ := utf.Decode(b[:3])
		if !slices.Equal(v, []rune{'a', 0xfc}) {
			t.Errorf("Decode: %x", v)
		}
		e := utf.Encode(0xfc)
		if string(e) != "\xc3\xbc" {
			t.Errorf("Encode: % x", e)
		}
		w[0], v[0], e[0] = 7, 7, 7
	}
	if string(b) != "a\xc3\xbc\xe2\x82bXY" {
		t.Errorf("what was handed in is changed: % x", b)
	}
}
