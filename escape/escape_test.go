package escape_test

import (
	"fmt"
	"math"
	"math/rand"
	"slices"
	"strings"
	"testing"

	"umlaut/api"
	"umlaut/codec"
	"umlaut/desc"
	"umlaut/drive"
	"umlaut/escape"
	"umlaut/fuse"
	"umlaut/look"
	"umlaut/run"
	"umlaut/sole"
	"umlaut/table"
	"umlaut/word"
)

// names is what stands for the symbols that do harm.
func names() map[rune]string {
	return map[rune]string{'&': "&amp;", '<': "&lt;", '>': "&gt;", '"': "&quot;", '\'': "&#39;"}
}

// machine is one of the three, and how wide its windows may be.
type machine struct {
	name string
	make func() api.Desc
	sort api.Sort
	wide int
}

// machines is all three.
func machines() []machine {
	return []machine{
		{"Html", escape.Html, api.Scalars, 1},
		{"Url", escape.Url, api.Bytes, 1},
		{"Unurl", escape.Unurl, api.Bytes, 3},
	}
}

// P23.1, P23.2, P23.3: what kind of description each one is.
func TestKinds(t *testing.T) {
	for _, m := range machines() {
		d := m.make()
		if d.In != m.sort || d.Out != m.sort || desc.Check(d) != api.OK || d.States != 1 || desc.Width(d) > m.wide || !desc.Free(d) {
			t.Errorf("%s: %v", m.name, d)
		}
		if ok, e := sole.Sole(d); !ok || e != api.OK {
			t.Errorf("Sole of %s: %v, %d", m.name, ok, e)
		}
		for _, f := range d.Finals {
			if len(f.Guards) > m.wide || m.wide == 1 && len(f.Guards) > 0 {
				t.Errorf("%s: a final %v", m.name, f)
			}
		}
	}
}

// wantOne asks whether a machine relates an input to one output, and to nothing else.
func wantOne(t *testing.T, m func() api.Desc, x, y []rune) {
	t.Helper()
	l, e := run.Outputs(m(), x, 2)
	if e != api.OK || len(l) != 1 || !slices.Equal(l[0], y) {
		t.Fatalf("of %q: %q, %d, not %q", string(x), l, e, string(y))
	}
}

// chunks is a word in pieces that can be run.
func chunks(x []rune) [][]rune {
	return slices.Collect(slices.Chunk(x, api.MaxWord))
}

// P23.1: of all symbols, and of what is none.
func TestEsc(t *testing.T) {
	want := names()
	ask := func(x rune) {
		s, harmful := want[x]
		got := escape.Esc(x)
		if harmful && string(got) != s || !harmful && !slices.Equal(got, []rune{x}) {
			t.Errorf("Esc(%x): %q", x, string(got))
		}
	}
	for x := rune(-300); x <= api.MaxRune+300; x++ {
		ask(x)
	}
	for _, x := range []rune{math.MinInt32, math.MaxInt32, -'&', '&' + 1<<16, '<' + 1<<24} {
		ask(x)
	}
}

// html is what Html makes of a word.
func html(x []rune) []rune {
	var out []rune
	for _, s := range x {
		if name, ok := names()[s]; ok {
			out = append(out, word.Of(name)...)
		} else {
			out = append(out, s)
		}
	}
	return out
}

// P23.1: Html, of all scalars, and of texts.
func TestHtml(t *testing.T) {
	wantOne(t, escape.Html, nil, nil)
	var all []rune
	for x := range rune(api.MaxRune + 1) {
		if word.In(api.Scalars, x) {
			all = append(all, x)
		}
	}
	for _, l := range chunks(all) {
		wantOne(t, escape.Html, l, html(l))
	}
	for _, s := range []string{"&", "'", "&amp;", "<a href=\"x\">'&'</a>", "<<>>&&", "&#39;&lt", "<ü'&", "\x00\ufffd\U0010ffff>"} {
		wantOne(t, escape.Html, word.Of(s), html(word.Of(s)))
	}
	r := rand.New(rand.NewSource(1))
	some := word.Of("&<>\"'&<>\"'%;=?!#$a\x00\u007fü\ud7ff\ue000\U0010ffff")
	for range 200 {
		x := make([]rune, r.Intn(30))
		for i := range x {
			x[i] = some[r.Intn(len(some))]
		}
		wantOne(t, escape.Html, x, html(x))
	}
	if ok, e := run.Accepts(escape.Html(), []rune{0xd800}); ok || e != api.ErrArg {
		t.Errorf("Html of what is no scalar: %v, %d", ok, e)
	}
}

// P23.1, P23.2, P23.3: nothing else is related.
func TestNothingElse(t *testing.T) {
	for _, c := range []struct {
		m    func() api.Desc
		x, y string
	}{
		{escape.Html, "&", "&"}, {escape.Html, "&", "&amp"}, {escape.Html, "&", "&amp;;"}, {escape.Html, "&", ""}, {escape.Html, "&amp;", "&amp;"}, {escape.Html, "a", ""}, {escape.Html, "", "a"},
		{escape.Url, "%20", "%20"}, {escape.Url, "/", "%2f"}, {escape.Url, "/", "/"}, {escape.Url, "a", "%61"}, {escape.Url, "\n", "%A"}, {escape.Url, "", "%00"},
		{escape.Unurl, "%20", "%20"}, {escape.Unurl, "%2", ""}, {escape.Unurl, "%", ""}, {escape.Unurl, "+", " "}, {escape.Unurl, "%%30", "%%30"}, {escape.Unurl, "%2530", "0"},
	} {
		if ok, e := run.Relates(c.m(), word.Of(c.x), word.Of(c.y)); ok || e != api.OK {
			t.Errorf("%q to %q: %v, %d", c.x, c.y, ok, e)
		}
	}
}

// P23.2: all bytes.
func TestBytes(t *testing.T) {
	const free = "ABCDEFGHIJKLMNOPQRSTUVWXYZabcdefghijklmnopqrstuvwxyz0123456789-._~"
	n := 0
	for x := range 256 {
		b := byte(x)
		want := fmt.Sprintf("%%%02X", b)
		if strings.IndexByte(free, b) >= 0 {
			want = string(rune(b))
			n++
		}
		if escape.Unreserved(b) != (len(want) == 1) {
			t.Errorf("Unreserved(%x): %v", b, escape.Unreserved(b))
		}
		if got := string(escape.Percent(b)); got != want {
			t.Errorf("Percent(%x): %s, not %s", b, got, want)
		}
		wantOne(t, escape.Url, []rune{rune(b)}, word.Of(want))
	}
	if n != 66 {
		t.Errorf("%d unreserved bytes", n)
	}
}

// url is what Percent makes of bytes.
func url(b []byte) []byte {
	var out []byte
	for _, x := range b {
		out = append(out, escape.Percent(x)...)
	}
	return out
}

// P23.2: Url, of many bytes.
func TestUrl(t *testing.T) {
	wantOne(t, escape.Url, nil, nil)
	wantOne(t, escape.Url, word.Of("a b/"), word.Of("a%20b%2F"))
	wantOne(t, escape.Url, word.Of("%2F~"), word.Of("%252F~"))
	r := rand.New(rand.NewSource(2))
	for range 100 {
		b := make([]byte, r.Intn(300))
		r.Read(b)
		wantOne(t, escape.Url, word.Raw(b), word.Raw(url(b)))
	}
}

// hex is the value of a hex digit, and true; false of another byte.
func hex(b byte) (byte, bool) {
	i := strings.IndexByte("0123456789abcdef", b)
	if i < 0 {
		i = strings.IndexByte("0123456789ABCDEF", b)
	}
	return byte(i), i >= 0
}

// unurl is what Unurl makes of bytes.
func unurl(b []byte) []byte {
	var out []byte
	for len(b) > 0 {
		if len(b) > 2 && b[0] == '%' {
			upper, ok := hex(b[1])
			lower, alsoOk := hex(b[2])
			if ok && alsoOk {
				out, b = append(out, upper*16+lower), b[3:]
				continue
			}
		}
		out, b = append(out, b[0]), b[1:]
	}
	return out
}

// wantBack asks Unurl.
func wantBack(t *testing.T, b []byte) {
	t.Helper()
	wantOne(t, escape.Unurl, word.Raw(b), word.Raw(unurl(b)))
}

// P23.3: all words of a few symbols, all pairs behind a sign, and any bytes.
func TestUnurl(t *testing.T) {
	wantOne(t, escape.Unurl, word.Of("%2f%zz%4"), word.Of("/%zz%4"))
	wantOne(t, escape.Unurl, word.Of("%%4%41%%"), word.Of("%%4A%%"))
	some := []byte("%4aF.")
	var all [][]byte
	for l, n := [][]byte{nil}, 0; n <= 5; n++ {
		all = append(all, l...)
		var next [][]byte
		for _, b := range l {
			for _, x := range some {
				next = append(next, append(b[:len(b):len(b)], x))
			}
		}
		l = next
	}
	for _, b := range all {
		wantBack(t, b)
	}
	var triples []byte
	for x := range 256 {
		wantBack(t, []byte{byte(x)})
		wantBack(t, []byte{'%', byte(x)})
		for y := range 256 {
			triples = append(triples, '%', byte(x), byte(y))
			if _, ok := hex(byte(x)); ok {
				wantBack(t, []byte{'%', byte(x), byte(y)})
			}
		}
	}
	for l := range slices.Chunk(triples, 1023) {
		wantBack(t, l)
	}
	r := rand.New(rand.NewSource(3))
	edges := []byte("%%%%%%%%0189afAF/:@G`g\x00\xff")
	for i := range 500 {
		b := make([]byte, r.Intn(100))
		r.Read(b)
		for k := range b {
			if i%2 == 0 {
				b[k] = edges[r.Intn(len(edges))]
			}
		}
		wantBack(t, b)
	}
}

// made is the one output of a machine.
func made(t *testing.T, d api.Desc, x []rune) []rune {
	t.Helper()
	l, e := run.Outputs(d, x, 2)
	if e != api.OK || len(l) != 1 {
		t.Fatalf("of %q: %q, %d", string(x), l, e)
	}
	return l[0]
}

// P23.4: there and back, and nothing that does harm.
func TestFollows(t *testing.T) {
	r := rand.New(rand.NewSource(4))
	for range 200 {
		b := make([]byte, r.Intn(300))
		r.Read(b)
		there := made(t, escape.Url(), word.Raw(b))
		if back := made(t, escape.Unurl(), there); !slices.Equal(back, word.Raw(b)) {
			t.Fatalf("%q: %q, and back %q", b, string(there), string(back))
		}
		for _, x := range there {
			if x != '%' && !escape.Unreserved(byte(x)) {
				t.Fatalf("%q: %q", b, string(there))
			}
		}
		x := make([]rune, r.Intn(100))
		for i := range x {
			x[i] = rune(r.Intn(128))
		}
		s := string(made(t, escape.Html(), x))
		if strings.ContainsAny(s, "<>\"'") {
			t.Fatalf("%q: %q", string(x), s)
		}
		for _, part := range strings.Split(s, "&")[1:] {
			begins := false
			for _, name := range names() {
				begins = begins || strings.HasPrefix("&"+part, name)
			}
			if !begins {
				t.Fatalf("%q: %q", string(x), s)
			}
		}
	}
}

// Behind a decoder, and ahead of an encoder, Html has one state, and a table; so have the others.
func TestTables(t *testing.T) {
	fused, e := fuse.Fuse(codec.Strict(), escape.Html(), codec.Encoder(), 1)
	if e != api.OK || fused.States != 1 {
		t.Fatalf("Fuse: %d, %d states", e, fused.States)
	}
	if got := made(t, fused, []rune{0x3c, 0xc3, 0xbc}); !slices.Equal(got, []rune{0x26, 0x6c, 0x74, 0x3b, 0xc3, 0xbc}) {
		t.Errorf("of 3C C3 BC: %x", got)
	}
	for _, c := range []struct {
		d    api.Desc
		x, y string
	}{{fused, "<ü'&", "&lt;ü&#39;&amp;"}, {escape.Url(), "a b/", "a%20b%2F"}, {escape.Unurl(), "%2f%zz%4", "/%zz%4"}} {
		flat, e := table.Compile(c.d)
		got, f := drive.Run(flat, []byte(c.x))
		if e != api.OK || f != api.OK || string(got) != c.y {
			t.Errorf("the table, of %s: %s, %d, %d", c.x, got, e, f)
		}
	}
	// What Unurl reads ahead is little enough to be remembered.
	simple, e := look.Eliminate(escape.Unurl(), 64)
	if e != api.OK {
		t.Fatalf("Eliminate: %d", e)
	}
	if got := made(t, simple, word.Of("%2f%zz%4")); string(got) != "/%zz%4" {
		t.Errorf("without lookahead: %q", string(got))
	}
}

// lists is all lists of a description, as functions that change what is in them and in their room.
func lists(d api.Desc) []func() {
	var out []func()
	window := func(guards [][]api.Span, terms []api.Term) {
		for _, g := range guards {
			out = append(out, func() { scrawl(g, api.Span{Lo: -7}) })
		}
		for _, x := range terms {
			out = append(out, func() { scrawl(x.Parts, api.Part{At: -7}) })
		}
		out = append(out, func() { scrawl(guards, nil) }, func() { scrawl(terms, api.Term{Sum: -7}) })
	}
	for _, r := range d.Rules {
		window(r.Guards, r.Out)
	}
	for _, f := range d.Finals {
		window(f.Guards, f.Out)
	}
	return append(out, func() { scrawl(d.Rules, api.Rule{To: -7}) }, func() { scrawl(d.Finals, api.Final{From: -7}) })
}

// scrawl fills a list and its room.
func scrawl[T any](l []T, x T) {
	for i := range l[:cap(l)] {
		l[:cap(l)][i] = x
	}
}

// Rule 4: what is answered is new memory, of which no two lists share any.
func TestMemory(t *testing.T) {
	for _, m := range machines() {
		want := fmt.Sprint(m.make())
		seen := map[any]int{}
		n := 0
		mark := func(p any) { seen[p]++; n++ }
		d := m.make()
		for _, r := range d.Rules {
			for i := range r.Guards {
				mark(&r.Guards[i])
				mark(&r.Guards[i][0])
			}
			for i := range r.Out {
				mark(&r.Out[i])
				if len(r.Out[i].Parts) > 0 {
					mark(&r.Out[i].Parts[0])
				}
			}
		}
		for _, f := range d.Finals {
			for i := range f.Guards {
				mark(&f.Guards[i])
				mark(&f.Guards[i][0])
			}
			for i := range f.Out {
				mark(&f.Out[i])
				if len(f.Out[i].Parts) > 0 {
					mark(&f.Out[i].Parts[0])
				}
			}
		}
		if len(seen) != n {
			t.Errorf("%s: lists share memory", m.name)
		}
		for _, change := range lists(d) {
			change()
		}
		if got := fmt.Sprint(m.make()); got != want {
			t.Errorf("%s: %s, and then %s", m.name, want, got)
		}
	}
	for range 2 {
		for _, x := range []rune{'&', 'a'} {
			l := escape.Esc(x)
			if want := string(html([]rune{x})); string(l) != want {
				t.Errorf("Esc(%c): %q", x, l)
			}
			scrawl(l, -7)
		}
		for _, x := range []byte{'/', 'a'} {
			l := escape.Percent(x)
			if want := map[byte]string{'/': "%2F", 'a': "a"}[x]; string(l) != want {
				t.Errorf("Percent(%c): %q", x, l)
			}
			scrawl(l, 7)
		}
	}
}
