package codec_test

import (
	"fmt"
	"math/rand"
	"slices"
	"testing"

	"umlaut/api"
	"umlaut/codec"
	"umlaut/desc"
	"umlaut/run"
	"umlaut/utf"
)

// to is the set of the numbers from lo to hi; alone is a guard of its own, of these.
func to(lo, hi int) []api.Span         { return []api.Span{{Lo: lo, Hi: hi}} }
func alone(s ...api.Span) [][]api.Span { return [][]api.Span{s} }

// bits is a part; scalar is a term of a scalar, piece is one of a byte.
func bits(at, take, up int) api.Part { return api.Part{At: at, Take: take, Up: up} }
func scalar(parts ...api.Part) api.Term {
	return api.Term{Take: 21, Parts: parts}
}
func piece(base, drop, take int) api.Term {
	return api.Term{Base: base, Drop: drop, Take: take, Parts: []api.Part{bits(0, 21, 0)}}
}

// text is a description as a text, of which nil and empty lists are one.
func text(d api.Desc) string { return fmt.Sprint(d) }

// P11.1: as the chapter's words say, the rows being those of chapter 10.
func TestStrict(t *testing.T) {
	further := to(0x80, 0xbf)
	one := scalar(bits(0, 21, 0))
	two := scalar(bits(1, 6, 0), bits(0, 5, 6))
	three := scalar(bits(2, 6, 0), bits(1, 6, 6), bits(0, 4, 12))
	four := scalar(bits(3, 6, 0), bits(2, 6, 6), bits(1, 6, 12), bits(0, 3, 18))
	eats := func(out api.Term, guards ...[]api.Span) api.Rule {
		return api.Rule{Guards: guards, Eat: len(guards), Out: []api.Term{out}}
	}
	want := api.Desc{In: api.Bytes, Out: api.Scalars, States: 1, Rules: []api.Rule{
		eats(one, to(0x00, 0x7f)),
		eats(two, to(0xc2, 0xdf), further),
		eats(three, to(0xe0, 0xe0), to(0xa0, 0xbf), further),
		eats(three, to(0xe1, 0xec), further, further),
		eats(three, to(0xed, 0xed), to(0x80, 0x9f), further),
		eats(three, to(0xee, 0xef), further, further),
		eats(four, to(0xf0, 0xf0), to(0x90, 0xbf), further, further),
		eats(four, to(0xf1, 0xf3), further, further, further),
		eats(four, to(0xf4, 0xf4), to(0x80, 0x8f), further, further),
	}, Finals: []api.Final{{}}}
	if got := codec.Strict(); text(got) != text(want) {
		t.Errorf("Strict: %v, not %v", got, want)
	}
	if e := desc.Check(codec.Strict()); e != api.OK {
		t.Errorf("Strict isn't well formed: %d", e)
	}
}

// P11.3: as the chapter's words say.
func TestEncoder(t *testing.T) {
	eats := func(guards [][]api.Span, out ...api.Term) api.Rule {
		return api.Rule{Guards: guards, Eat: 1, Out: out}
	}
	want := api.Desc{In: api.Scalars, Out: api.Bytes, States: 1, Rules: []api.Rule{
		eats(alone(api.Span{Hi: 0x7f}), scalar(bits(0, 21, 0))),
		eats(alone(api.Span{Lo: 0x80, Hi: 0x7ff}), piece(0xc0, 6, 5), piece(0x80, 0, 6)),
		eats(alone(api.Span{Lo: 0x800, Hi: 0xd7ff}, api.Span{Lo: 0xe000, Hi: 0xffff}), piece(0xe0, 12, 4), piece(0x80, 6, 6), piece(0x80, 0, 6)),
		eats(alone(api.Span{Lo: 0x10000, Hi: 0x10ffff}), piece(0xf0, 18, 3), piece(0x80, 12, 6), piece(0x80, 6, 6), piece(0x80, 0, 6)),
	}, Finals: []api.Final{{}}}
	if got := codec.Encoder(); text(got) != text(want) {
		t.Errorf("Encoder: %v, not %v", got, want)
	}
	if e := desc.Check(codec.Encoder()); e != api.OK {
		t.Errorf("Encoder isn't well formed: %d", e)
	}
}

// meet tells whether guards have a symbol in common at each of the first n places.
func meet(a, b [][]api.Span, n int) bool {
	for i := range n {
		common := false
		for _, x := range a[i] {
			for _, y := range b[i] {
				common = common || x.Lo <= y.Hi && y.Lo <= x.Hi
			}
		}
		if !common {
			return false
		}
	}
	return true
}

// P11.2: what kind of description it is.
func TestRepairerKind(t *testing.T) {
	d := codec.Repairer()
	if d.In != api.Bytes || d.Out != api.Scalars || desc.Check(d) != api.OK || !desc.Free(d) || d.States > 64 || desc.Width(d) > 4 || desc.Ahead(d) > 1 {
		t.Errorf("Repairer: %v", d)
	}
	for i, r := range d.Rules {
		for _, s := range d.Rules[:i] {
			if r.From == s.From && meet(r.Guards, s.Guards, min(len(r.Guards), len(s.Guards))) {
				t.Errorf("both can be taken: %v, %v", r, s)
			}
		}
		for _, f := range d.Finals {
			if r.From == f.From && len(r.Guards) <= len(f.Guards) && meet(r.Guards, f.Guards, len(r.Guards)) {
				t.Errorf("both can be taken: %v, %v", r, f)
			}
		}
	}
	for i, f := range d.Finals {
		for _, g := range d.Finals[:i] {
			if f.From == g.From && len(f.Guards) == len(g.Guards) && meet(f.Guards, g.Guards, len(f.Guards)) {
				t.Errorf("both can be taken: %v, %v", f, g)
			}
		}
	}
}

// machine is a description, with its name.
type machine struct {
	api.Desc
	name string
}

func strict() machine   { return machine{codec.Strict(), "Strict"} }
func repairer() machine { return machine{codec.Repairer(), "Repairer"} }
func encoder() machine  { return machine{codec.Encoder(), "Encoder"} }

// wants asks what an input is related to: one output, or, if there is none, nothing.
func (m machine) wants(t *testing.T, x, y []rune, ok bool) {
	t.Helper()
	l, e := run.Outputs(m.Desc, x, 9)
	if e != api.OK || len(l) > 1 || (len(l) == 1) != ok || ok && !slices.Equal(l[0], y) {
		t.Fatalf("%s of %x: %x, %d, not %x, %v", m.name, x, l, e, y, ok)
	}
}

// raw is bytes as symbols.
func raw(b []byte) []rune {
	var out []rune
	for _, x := range b {
		out = append(out, rune(x))
	}
	return out
}

// decodes asks both decoders of bytes, by chapter 10.
func decodes(t *testing.T, b []byte) {
	t.Helper()
	x, ok := utf.Decode(b)
	strict().wants(t, raw(b), x, ok)
	repairer().wants(t, raw(b), utf.Repair(b), true)
}

// encodes asks what scalars are encoded to.
func encodes(t *testing.T, scalars []rune) {
	t.Helper()
	var b []byte
	for _, x := range scalars {
		b = append(b, utf.Encode(x)...)
	}
	encoder().wants(t, scalars, raw(b), true)
}

// edges is a byte of each set that the rows tell apart, and the sets' ends.
func edges() []byte {
	return []byte{0x00, 0x62, 0x7f, 0x80, 0x8f, 0x90, 0x9f, 0xa0, 0xbf, 0xc0, 0xc1, 0xc2, 0xdf, 0xe0, 0xe1, 0xec, 0xed, 0xee, 0xef, 0xf0, 0xf1, 0xf3, 0xf4, 0xf5, 0xff}
}

// P11.1, P11.2: the chapter's example, and few bytes, all that may come of edges.
func TestFewBytes(t *testing.T) {
	repairer().wants(t, []rune{0xe2, 0x82, 0x62}, []rune{0xfffd, 0x62}, true)
	strict().wants(t, []rune{0xe2, 0x82, 0x62}, nil, false)
	decodes(t, nil)
	for x := range 256 {
		decodes(t, []byte{byte(x)})
	}
	for _, x := range edges() {
		for _, y := range edges() {
			decodes(t, []byte{x, y})
			for _, z := range edges() {
				if x >= 0xe0 {
					decodes(t, []byte{x, y, z})
				}
			}
		}
	}
}

// P11.1, P11.2: bytes by chance, of edges and of sequences, whole ones and parts.
func TestManyBytes(t *testing.T) {
	r := rand.New(rand.NewSource(11))
	valid := 0
	for range 4000 {
		var b []byte
		for range 1 + r.Intn(8) {
			s := utf.Encode(scalars()[r.Intn(len(scalars()))])
			switch r.Intn(9) {
			case 0:
				s = s[:1+r.Intn(len(s))]
			case 1:
				s[r.Intn(len(s))] = edges()[r.Intn(len(edges()))]
			}
			b = append(b, s...)
		}
		decodes(t, b)
		if utf.Valid(b) {
			valid++
		}
	}
	if valid < 500 || valid > 3500 {
		t.Errorf("few inputs are valid, or not: %d", valid)
	}
}

// scalars is the ends of what as many bytes, or the same row's ones, are, and some between.
func scalars() []rune {
	return []rune{0, 'a', 0x7f, 0x80, 0xfc, 0x7ff, 0x800, 0xfff, 0x1000, 0x20ac, 0xcfff, 0xd000, 0xd7ff, 0xe000, 0xfffd, 0xffff, 0x10000, 0x1f4a9, 0x3ffff, 0x40000, 0xfffff, 0x100000, 0x10ffff}
}

// P11.3, and P11.1: scalars, alone and behind one another, there and back; of all of them each seventh.
func TestScalars(t *testing.T) {
	encoder().wants(t, []rune{0xfc}, []rune{0xc3, 0xbc}, true)
	encodes(t, nil)
	encodes(t, scalars())
	for _, x := range scalars() {
		encodes(t, []rune{x})
		decodes(t, utf.Encode(x))
	}
	var w []rune
	var b []byte
	for x := rune(0); x <= api.MaxRune; x += 7 {
		if s := utf.Encode(x); len(s) > 0 {
			w, b = append(w, x), append(b, s...)
		}
		if len(b) > api.MaxWord-4 || x > api.MaxRune-7 {
			encoder().wants(t, w, raw(b), true)
			strict().wants(t, raw(b), w, true)
			w, b = nil, nil
		}
	}
	for _, x := range []rune{0xd800, 0xdfff, 0x110000, -1} {
		if l, e := run.Outputs(codec.Encoder(), []rune{x}, 9); e != api.ErrArg || len(l) > 0 {
			t.Errorf("Encoder of %x: %x, %d", x, l, e)
		}
	}
}

// scrawl writes into all lists of a rule or a final, their room too.
func scrawl(g [][]api.Span, l []api.Term) {
	for _, s := range g {
		for i := range s[:cap(s)] {
			s[:cap(s)][i].Lo = -7
		}
	}
	for _, x := range l {
		for i := range x.Parts[:cap(x.Parts)] {
			x.Parts[:cap(x.Parts)][i].Up = -7
		}
	}
	clear(g[:cap(g)])
	clear(l[:cap(l)])
}

// Rule 4: what is answered is new memory, of which no two lists share any.
func TestMemory(t *testing.T) {
	for _, call := range []func() api.Desc{codec.Strict, codec.Repairer, codec.Encoder} {
		d, again := call(), call()
		before := text(again)
		for i := range d.Rules {
			scrawl(d.Rules[i].Guards, d.Rules[i].Out)
			if fmt.Sprint(d.Rules[i+1:], d.Finals) != fmt.Sprint(again.Rules[i+1:], again.Finals) {
				t.Errorf("what was answered shares memory within: rule %d", i)
			}
		}
		for i := range d.Finals {
			scrawl(d.Finals[i].Guards, d.Finals[i].Out)
			if fmt.Sprint(d.Finals[i+1:]) != fmt.Sprint(again.Finals[i+1:]) {
				t.Errorf("what was answered shares memory within: final %d", i)
			}
		}
		clear(d.Rules[:cap(d.Rules)])
		clear(d.Finals[:cap(d.Finals)])
		if text(again) != before || text(call()) != before {
			t.Errorf("what was answered shares memory with a later answer: %v", again)
		}
	}
}
