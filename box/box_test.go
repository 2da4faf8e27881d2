package box_test

import (
	"fmt"
	"math"
	"math/rand"
	"slices"
	"testing"

	"umlaut/api"
	"umlaut/box"
	"umlaut/codec"
	"umlaut/part"
	"umlaut/span"
	"umlaut/term"
)

const top = 0x10ffff

// of writes a list by its bounds.
func of(bounds ...int) []api.Span {
	var l []api.Span
	for i := 0; i < len(bounds); i += 2 {
		l = append(l, api.Span{Lo: bounds[i], Hi: bounds[i+1]})
	}
	return l
}

// all is guards, or a box.
func all(guards ...[]api.Span) [][]api.Span { return guards }

// at makes a part, inner and outer make terms of parts.
func at(at, drop, take, up int) api.Part {
	return api.Part{At: at, Drop: drop, Take: take, Up: up}
}

func inner(sum int, parts ...api.Part) api.Term {
	return api.Term{Take: 21, Sum: sum, Parts: parts}
}

func outer(base, drop, take, up, sum int, parts ...api.Part) api.Term {
	return api.Term{Base: base, Drop: drop, Take: take, Up: up, Sum: sum, Parts: parts}
}

// two is the chapter's term.
func two() api.Term { return inner(0, at(1, 0, 6, 0), at(0, 0, 5, 6)) }

// windows is all windows of guards with few symbols.
func windows(guards [][]api.Span) [][]rune {
	out := [][]rune{nil}
	for _, g := range guards {
		var longer [][]rune
		for _, w := range out {
			for x := range span.Each(span.Meet(g, of(0, top))) {
				longer = append(longer, append(slices.Clone(w), rune(x)))
			}
		}
		out = longer
	}
	return out
}

// wanted tells whether a window's value is in a set.
func wanted(t api.Term, w []rune, g []api.Span) bool {
	v, ok := term.Value(t, w)
	return ok && span.Has(g, v)
}

// are asks whether all that is said of boxes holds, but for which windows they have: each is of the guards', and no two have one in common. It answers how many windows they have.
func are(t *testing.T, boxes [][][]api.Span, guards [][]api.Span) int {
	t.Helper()
	n := 0
	for i, b := range boxes {
		if len(b) != len(guards) {
			t.Fatalf("%v is no box of %v", b, guards)
		}
		size := 1
		for j, s := range b {
			size *= span.Count(s)
			if len(s) == 0 || !span.Check(s) || !span.Within(s, guards[j]) || !span.Within(s, of(0, top)) {
				t.Fatalf("%v is no box of %v", b, guards)
			}
		}
		n += size
		for _, c := range boxes[:i] {
			common := true
			for j := range b {
				common = common && span.Meets(b[j], c[j])
			}
			if common {
				t.Fatalf("%v and %v have a window in common", b, c)
			}
		}
	}
	return n
}

// promised tells whether ErrLong may not be answered.
func promised(t api.Term, guards [][]api.Span) bool {
	return len(t.Parts) <= 1 || len(t.Parts) == 2 && !slices.ContainsFunc(guards, func(g []api.Span) bool { return span.Count(g) > 16 })
}

// want asks for boxes, window by window.
func want(t *testing.T, u api.Term, guards [][]api.Span, g []api.Span) (int, api.Errno) {
	t.Helper()
	boxes, e := box.Boxes(u, guards, g)
	if e == api.ErrLong && !promised(u, guards) && len(boxes) == 0 {
		return 0, e
	}
	if e != api.OK || len(u.Parts) <= 1 && len(boxes) > 1 {
		t.Fatalf("Boxes(%v, %v, %v): %v, %d", u, guards, g, boxes, e)
	}
	n := are(t, boxes, guards)
	for _, w := range windows(guards) {
		in := 0
		for _, b := range boxes {
			if box.In(b, w) {
				in++
			}
		}
		if in > 1 || (in == 1) != wanted(u, w, g) {
			t.Fatalf("Boxes(%v, %v, %v): %v: %x is in %d", u, guards, g, boxes, w, in)
		}
		n -= in
	}
	if n != 0 {
		t.Fatalf("Boxes(%v, %v, %v): %v have other windows, too", u, guards, g, boxes)
	}
	return len(boxes), e
}

// P12.1: the chapter's example.
func TestExample(t *testing.T) {
	guards := all(of(0xc2, 0xdf), of(0x80, 0xbf))
	if n, e := want(t, two(), guards, of(0x80, 0xff)); e != api.OK || n < 1 || n > 2 {
		t.Errorf("%d boxes, %d", n, e)
	}
	boxes, _ := box.Boxes(two(), guards, of(0x80, 0xff))
	for x := rune(0xc0); x <= 0xe0; x++ {
		for y := rune(0x7e); y <= 0xc1; y++ {
			in := slices.ContainsFunc(boxes, func(b [][]api.Span) bool { return box.In(b, []rune{x, y}) })
			if in != (0xc2 <= x && x <= 0xc3 && 0x80 <= y && y <= 0xbf) {
				t.Errorf("%x %x: %v", x, y, in)
			}
		}
	}
}

// P12.1: terms without parts, of all kinds of windows: all of them or none.
func TestConst(t *testing.T) {
	guards := [][][]api.Span{nil, {}, all(of(5, 6)), all(of(5, 6, 3, 5, 9, 8), of(-5, 2)), all(of(5, 6), nil), all(of(-9, -1)), all(of(top, api.MaxNum), of(1, 1), of(1, 2), of(0, 3)), all(nil, nil, nil, nil)}
	for _, l := range guards {
		for _, g := range [][]api.Span{nil, of(0, 5), of(0x61, 0x61), of(-9, 0x60, 0x62, top), of(0x61, 0x60), of(math.MinInt, math.MaxInt)} {
			want(t, term.Const('a'), l, g)
			want(t, outer(0x60, 1, 3, 2, 3), l, g)
			want(t, outer(-top, 0, 21, 0, top), l, g)
			want(t, inner(-1), l, g)
		}
	}
	// One window alone is of no guards: it is a box's without places.
	if boxes, e := box.Boxes(term.Const('a'), nil, of('a', 'a')); e != api.OK || len(boxes) != 1 || len(boxes[0]) != 0 {
		t.Errorf("Boxes: %v, %d", boxes, e)
	}
}

// P12.1: what may not be.
func TestArg(t *testing.T) {
	fine := all(of(0, 9), of(0, 9))
	bad := func(u api.Term, guards [][]api.Span) {
		t.Helper()
		if boxes, e := box.Boxes(u, guards, of(0, top)); e != api.ErrArg || len(boxes) > 0 {
			t.Errorf("Boxes(%v, %v): %v, %d", u, guards, boxes, e)
		}
	}
	good := func(u api.Term) {
		t.Helper()
		want(t, u, fine, of(0, top))
	}
	bad(term.Const(1), slices.Repeat(fine, 3)[:5])
	bad(term.Const(1), make([][]api.Span, 5))
	bad(term.Const(1), make([][]api.Span, 66))
	for _, x := range []int{top + 1, -top - 1, math.MaxInt, math.MinInt, 1 << 32} {
		bad(inner(x), fine)
		bad(outer(x, 0, 21, 0, 0, part.Whole(0)), fine)
		bad(inner(0, at(x, 0, 6, 0)), fine)
		bad(outer(0, x, 6, 0, 0), fine)
		bad(outer(0, 0, x, 0, 0), fine)
		bad(outer(0, 0, 6, x, 0), fine)
		bad(inner(0, at(0, x, 6, 0)), fine)
		bad(inner(0, at(0, 0, x, 0)), fine)
		bad(inner(0, at(0, 0, 6, x)), fine)
		bad(inner(x), all(nil, nil)) // where there is no window, either
	}
	for _, p := range []api.Part{at(0, -1, 6, 0), at(0, 21, 6, 0), at(0, 0, 0, 0), at(0, 0, 22, 0), at(0, 0, 6, -1), at(0, 0, 6, 21), at(0, 0, 7, 1)} {
		bad(outer(0, p.Drop, p.Take, p.Up, 0), fine)
		bad(inner(0, p), fine)
		bad(inner(0, at(0, 0, 6, 0), p), fine)
	}
	for _, p := range []api.Part{at(0, 0, 1, 0), at(0, 20, 21, 0), at(1, 20, 6, 20), at(1, 0, 7, 0)} {
		good(outer(0, p.Drop, p.Take, p.Up, 0))
		good(inner(0, p))
	}
	bad(api.Term{}, fine)
	bad(inner(0, at(2, 0, 6, 0)), fine)
	bad(inner(0, at(-1, 0, 6, 0)), fine)
	bad(inner(0, at(0, 0, 6, 0)), nil)
	bad(inner(0, at(0, 0, 6, 0), at(1, 0, 6, 0)), fine)
	bad(inner(0, at(0, 0, 6, 6), at(1, 0, 6, 5)), fine)
	bad(inner(0, at(0, 0, 2, 0), at(0, 0, 2, 2), at(0, 0, 2, 4), at(0, 0, 2, 6), at(0, 0, 2, 8)), fine)
	good(inner(0, at(0, 0, 2, 0), at(0, 0, 2, 2), at(1, 0, 2, 4), at(0, 0, 2, 6)))
	for _, x := range []int{top, -top} {
		good(inner(x, at(0, 0, 6, 0), at(1, 0, 6, 6)))
		good(outer(x, 0, 21, 0, 0, at(0, 0, 6, 0), at(1, 0, 6, 6)))
	}
}

// chance makes things by chance, the same ones each time.
type chance struct{ *rand.Rand }

// one is one of some numbers.
func (r chance) one(l ...int) int { return l[r.Intn(len(l))] }

// bits is a part's right bits, with an Up that is at least so great.
func (r chance) bits(p api.Part, up int) api.Part {
	p.Up = min(20, up+r.one(0, 0, 1, 2, 6, r.Intn(21)))
	p.Take = r.one(1, 2, 3, 6, 6)
	if p.Up == 0 {
		p.Take = r.one(2, 6, 7, 8, 21, 1+r.Intn(21))
	}
	p.Drop = r.one(0, 0, 0, 0, 0, 0, 1, r.Intn(21))
	return p
}

// term is one of windows of n symbols, with so many parts, at most: its numbers and parts are right.
func (r chance) term(n, parts int) api.Term {
	o := r.bits(api.Part{}, 0)
	t := outer(r.one(0, 0, 0, 0x80, -5, top), o.Drop, o.Take, o.Up, r.one(0, 0, 0, 7, -40, -3, 0x80, -0xd800, top-9, -top))
	if r.Intn(2) == 0 {
		t.Base, t.Drop, t.Take, t.Up = 0, 0, 21, 0
	}
	up := 0
	for range parts {
		if n == 0 || up > 20 {
			break
		}
		p := r.bits(api.Part{At: r.Intn(n)}, up)
		up = p.Up + 1
		t.Parts = append(t.Parts, p)
	}
	return t
}

// sum is a term of windows of n symbols, above 0, with two parts or more, each of which tells something of small symbols.
func (r chance) sum(n int) api.Term {
	t := inner(0)
	up := 0
	for range 2 + r.Intn(3) {
		t.Parts = append(t.Parts, at(r.Intn(n), r.Intn(2), 1+r.Intn(6), up))
		up += 1 + r.Intn(3)
	}
	return t
}

// set is any list with few numbers that are symbols; it may be neither plain nor within the symbols.
func (r chance) set() []api.Span {
	from := r.one(0, 0, 1, 60, 0x80, 0xc0, 0xfff, 0x10000, top-20, r.Intn(top))
	var l []api.Span
	for range r.Intn(4) {
		lo := from + r.Intn(12)
		l = append(l, api.Span{Lo: lo, Hi: lo + r.Intn(4) - 1})
	}
	switch r.Intn(9) {
	case 0:
		l = append(l, api.Span{Lo: -5, Hi: -1})
	case 1:
		l = append(l, api.Span{Lo: math.MinInt, Hi: r.Intn(3)})
	case 2:
		l = append(l, api.Span{Lo: top - r.Intn(3), Hi: math.MaxInt})
	}
	return l
}

// sets is guards of windows of n symbols.
func (r chance) sets(n int) [][]api.Span {
	var l [][]api.Span
	for range n {
		l = append(l, r.set())
	}
	return l
}

// goal is a set in which some of a term's values lie, but not all.
func (r chance) goal(t api.Term, guards [][]api.Span) []api.Span {
	var g []api.Span
	l := windows(guards)
	for range r.Intn(9) {
		if len(l) == 0 {
			break
		}
		if v, ok := term.Value(t, l[r.Intn(len(l))]); ok {
			lo := v - r.Intn(3)*r.Intn(9)
			g = append(g, api.Span{Lo: lo, Hi: v + r.Intn(2)})
		}
	}
	switch r.Intn(9) {
	case 0:
		g = append(g, api.Span{Lo: math.MinInt, Hi: r.Intn(100) - 50})
	case 1:
		return span.Minus(of(math.MinInt, math.MaxInt), g)
	case 2:
		return of(0, top)
	}
	return g
}

// P12.1: window by window, of terms and guards by chance; and P12.3: with what isn't in the set they have all windows that have a value.
func TestModel(t *testing.T) {
	r := chance{rand.New(rand.NewSource(12))}
	some, many, long := 0, 0, 0
	for range 20000 {
		n := r.Intn(5)
		guards := r.sets(n)
		if len(windows(guards)) > 500 {
			continue
		}
		u := r.term(n, r.Intn(5))
		if n > 1 && r.Intn(2) == 0 {
			u = r.sum(n)
		}
		g := r.goal(u, guards)
		k, e := want(t, u, guards, g)
		if e == api.ErrLong {
			long++
			continue
		}
		if k > 0 {
			some++
		}
		if k > 1 {
			many++
		}
		if m, e := want(t, u, guards, span.Minus(of(math.MinInt, math.MaxInt), g)); e == api.OK && k+m == 0 && len(windows(guards)) > 0 {
			for _, w := range windows(guards) {
				if _, ok := term.Value(u, w); ok {
					t.Fatalf("of %v, %v neither has %x", u, guards, w)
				}
			}
		}
	}
	if some < 5000 || many < 700 || long > 100 {
		t.Errorf("few have boxes, or several ones, or many are long: %d, %d, %d", some, many, long)
	}
}

// P12.1: sixteen numbers, wherever they lie, and two parts, which are promised.
func TestSixteen(t *testing.T) {
	r := chance{rand.New(rand.NewSource(16))}
	for range 2000 {
		n := 1 + r.Intn(2)
		var guards [][]api.Span
		for range n {
			var g []api.Span
			for range 16 {
				x := r.one(r.Intn(256), r.Intn(0x2000), r.Intn(top))
				g = append(g, api.Span{Lo: x, Hi: x})
			}
			guards = append(guards, g)
		}
		u := r.term(n, 2)
		if _, e := want(t, u, guards, r.goal(u, guards)); e != api.OK {
			t.Fatalf("Boxes(%v, %v): %d", u, guards, e)
		}
	}
}

// P12.1: of one part there is one box, and it is promised, however many symbols the guards have.
func TestOnePart(t *testing.T) {
	r := chance{rand.New(rand.NewSource(1))}
	symbols := of(0, top)
	for range 60 {
		u := r.term(1, 1)
		n := r.Intn(3)
		guards := append(slices.Repeat(all(symbols), n), of(-7, 0x8000, 0x7000, 0xffff, 0x10001, math.MaxInt), of(-1, 1))
		g := of(r.Intn(99), 99+r.Intn(9999), 0xfff0, 0x10000+r.Intn(0x40000), 0x80000, 0x80000+r.Intn(0x40000))
		want := term.Pre(u, guards[n], g)
		u.Parts[0].At = n
		boxes, e := box.Boxes(u, guards, g)
		if e != api.OK || len(boxes) > 1 || (len(boxes) == 1) != (len(want) > 0) {
			t.Fatalf("Boxes(%v, %v, %v): %d, %d", u, guards, g, len(boxes), e)
		}
		if len(boxes) == 0 {
			continue
		}
		are(t, boxes, guards)
		for i, s := range boxes[0] {
			if i == n && !slices.Equal(s, want) || i != n && !slices.Equal(s, span.Meet(guards[i], symbols)) {
				t.Fatalf("Boxes(%v, %v, %v): place %d", u, guards, g, i)
			}
		}
	}
}

// P12.1, P12.3: of the sequences that a decoder reads there are as many as scalars in the set, as each is of one scalar.
func TestSequences(t *testing.T) {
	sets := [][]api.Span{of('&', '&'), of('<', '<', '>', '>'), of(0xfc, 0x20ac), of(0x20ac, 0x20ac), of(0xd7ff, 0xd7ff, 0xfffd, 0x10000), of(0x12345, 0x54321), of(0x3ffff, 0x40000, 0xffffe, 0x100001), of(0, 9, 11, 12, 14, top)}
	for _, r := range codec.Strict().Rules {
		u := r.Out[0]
		image, _ := term.Image(u, r.Guards)
		for _, g := range sets {
			for _, s := range [][]api.Span{g, span.Minus(of(math.MinInt, math.MaxInt), g)} {
				boxes, e := box.Boxes(u, r.Guards, s)
				if n := are(t, boxes, r.Guards); e != api.OK || n != span.Count(span.Meet(image, s)) || len(boxes) > 9 {
					t.Errorf("Boxes(%v, %v, %v): %d boxes of %d windows, %d", u, r.Guards, s, len(boxes), n, e)
				}
				for _, b := range boxes {
					if own, ok := term.Image(u, b); !ok || !span.Within(own, s) {
						t.Errorf("Boxes(%v, %v, %v): %v", u, r.Guards, s, b)
					}
				}
			}
		}
	}
}

// P12.1: guards with many symbols, and sets with many spans; whatever is answered, it ends.
func TestGreat(t *testing.T) {
	bytes := of(0, 255)
	var even []api.Span
	for x := 0; x <= top; x += 2 {
		even = append(even, api.Span{Lo: x, Hi: x})
	}
	ended := func(u api.Term, guards [][]api.Span, g []api.Span) int {
		t.Helper()
		boxes, e := box.Boxes(u, guards, g)
		if e != api.OK && (e != api.ErrLong || len(boxes) > 0 || promised(u, guards)) {
			t.Fatalf("Boxes(%v, %v): %d", u, guards, e)
		}
		return are(t, boxes, guards)
	}
	four := inner(0, at(3, 0, 21, 0), at(2, 0, 6, 8), at(1, 0, 6, 14), at(0, 0, 1, 20))
	// All but the greatest 2^16 - 1 of these values are symbols; each comes of 4 bytes of one place, of as many of another one, and of 128 of the third.
	if n := ended(four, slices.Repeat(all(bytes), 4), of(0, top)); n != 4*4*128*(top+1) {
		t.Errorf("%d windows", n)
	}
	ended(four, slices.Repeat(all(bytes), 4), even)
	ended(inner(0, at(0, 0, 21, 0), at(1, 0, 6, 1), at(2, 0, 6, 2), at(3, 0, 6, 3)), slices.Repeat(all(bytes), 4), even)
	ended(inner(-top, at(0, 0, 21, 0), at(1, 0, 6, 18), at(0, 0, 6, 19), at(1, 0, 6, 20)), slices.Repeat(all(of(0, top)), 2), even)
	ended(inner(0, at(1, 0, 21, 0), at(0, 0, 1, 1)), all(of(0, 1), of(0, top)), even)
	ended(outer(0, 0, 1, 0, 0, part.Whole(0)), all(even), of(0, 0))
	// Of so wild a set there would be very many boxes.
	var wild []api.Span
	for x, y := 0, 1; x <= top; x++ {
		y = (y*1103515245 + 12345) % (1 << 31)
		if y>>16%2 == 0 {
			wild = append(wild, api.Span{Lo: x, Hi: x})
		}
	}
	ended(inner(0, at(3, 0, 21, 0), at(2, 0, 6, 7), at(1, 0, 6, 13), at(0, 0, 6, 14)), slices.Repeat(all(bytes), 4), wild)
}

// P12.2, by what lies in lists, number by number.
func TestInMeet(t *testing.T) {
	r := chance{rand.New(rand.NewSource(2))}
	lists := func() [][]api.Span {
		var l [][]api.Span
		for range r.Intn(4) {
			l = append(l, append(of(r.Intn(9)-4, r.Intn(9)-4), r.set()...))
		}
		return l
	}
	common := 0
	for range 20000 {
		a, b := lists(), lists()
		var w []rune
		for range r.Intn(4) {
			w = append(w, rune(r.Intn(14)-5))
		}
		in := len(a) == len(w)
		for i := range min(len(a), len(w)) {
			in = in && slices.ContainsFunc(a[i], func(s api.Span) bool { return s.Lo <= int(w[i]) && int(w[i]) <= s.Hi })
		}
		if box.In(a, w) != in {
			t.Fatalf("In(%v, %v): %v", a, w, !in)
		}
		ok := len(a) == len(b)
		var want [][]api.Span
		for i := range min(len(a), len(b)) {
			want = append(want, span.Meet(a[i], b[i]))
			ok = ok && len(want[i]) > 0
		}
		if !ok {
			want = nil
		}
		got, is := box.Meet(a, b)
		if is != ok || fmt.Sprint(got) != fmt.Sprint(want) {
			t.Fatalf("Meet(%v, %v): %v, %v", a, b, got, is)
		}
		if ok && len(a) > 0 {
			common++
		}
	}
	if common < 200 {
		t.Errorf("few have something in common: %d", common)
	}
	for _, x := range []struct {
		box [][]api.Span
		w   []rune
		in  bool
	}{
		{nil, nil, true}, {all(), []rune{}, true}, {nil, []rune{0}, false}, {all(nil), nil, false}, {all(nil), []rune{0}, false},
		{all(of(-5, -5)), []rune{-5}, true}, {all(of(5, 4)), []rune{5}, false}, {all(of(5, 4, 9, 9, 5, 5)), []rune{5}, true},
		{all(of(math.MinInt, math.MaxInt)), []rune{math.MinInt32}, false}, {all(of(math.MinInt, math.MaxInt)), []rune{math.MaxInt32}, false},
		{all(of(math.MinInt, math.MaxInt)), []rune{-api.MaxNum}, true}, {all(of(1, 1), of(2, 2)), []rune{1, 2}, true}, {all(of(1, 1), of(2, 2)), []rune{1, 1}, false},
		{all(of(1, 1)), []rune{1, 1}, false}, {all(of(1, 1), of(1, 1)), []rune{1}, false},
	} {
		if box.In(x.box, x.w) != x.in {
			t.Errorf("In(%v, %v): %v", x.box, x.w, !x.in)
		}
	}
	if l, ok := box.Meet(nil, [][]api.Span{}); !ok || len(l) != 0 {
		t.Errorf("Meet of none: %v, %v", l, ok)
	}
	if l, ok := box.Meet(all(of(1, 5), of(3, 9, 4, math.MaxInt)), all(of(9, 9, 4, 7), of(-7, 3, api.MaxNum, math.MaxInt))); !ok || fmt.Sprint(l) != fmt.Sprint(all(of(4, 5), of(3, 3, api.MaxNum, api.MaxNum))) {
		t.Errorf("Meet: %v, %v", l, ok)
	}
	if l, ok := box.Meet(all(of(1, 5), of(3, 9)), all(of(1, 5), of(10, 11))); ok || len(l) != 0 {
		t.Errorf("Meet: %v, %v", l, ok)
	}
	if l, ok := box.Meet(slices.Repeat(all(of(1, 5)), 99), slices.Repeat(all(of(5, 6)), 99)); !ok || len(l) != 99 {
		t.Errorf("Meet: %v, %v", l, ok)
	}
}

// roomy is a list with room behind it, in which something stands.
func roomy[T any](l []T, behind T) []T {
	return append(slices.Clip(slices.Clone(l)), behind, behind)[:len(l)]
}

// roomyBox is guards, or a box, with room behind all of its lists.
func roomyBox(l [][]api.Span) [][]api.Span {
	for i := range l {
		l[i] = roomy(l[i], api.Span{Lo: 66})
	}
	return roomy(l, of(67, 67))
}

// whole is guards as a text, with all that lies in their lists' room.
func whole(l [][]api.Span) string {
	out := ""
	for _, s := range l[:cap(l)] {
		out += fmt.Sprint(s[:cap(s)])
	}
	return out
}

// scrawl writes into a box, its lists' room too.
func scrawl(l [][]api.Span) {
	for _, s := range l {
		for i := range s[:cap(s)] {
			s[:cap(s)][i].Lo = -7
		}
	}
	clear(l[:cap(l)])
}

// Rule 4: what is handed in isn't changed, its spare room neither; what is answered is new memory, of which no two lists share any.
func TestMemory(t *testing.T) {
	for _, u := range []api.Term{term.Const(5), term.Copy(1, 0), inner(0, at(2, 0, 6, 0), at(1, 0, 6, 6)), inner(0, at(0, 0, 2, 0), at(1, 0, 6, 3), at(2, 0, 2, 6))} {
		u.Parts = roomy(u.Parts, at(66, 66, 66, 66))
		parts := fmt.Sprint(u.Parts[:cap(u.Parts)])
		guards, g := roomyBox(all(of(0x80, 0x87), of(0x80, 0xbf, 0x60, 0x62), of(0x90, 0x9f, 0x82, 0x85))), roomyBox(all(of(0x83, 0x92, 5, 5, 0x15, 0x33)))
		guardsWere, gWere := whole(guards), whole(g)
		boxes, e := box.Boxes(u, guards, g[0])
		again, _ := box.Boxes(u, guards, g[0])
		if e != api.OK || len(boxes) == 0 || fmt.Sprint(boxes) != fmt.Sprint(again) {
			t.Fatalf("Boxes: %v, then %v, %d", boxes, again, e)
		}
		for i := range boxes {
			scrawl(boxes[i])
			if fmt.Sprint(boxes[i+1:]) != fmt.Sprint(again[i+1:]) {
				t.Errorf("boxes share memory: %v, %v", boxes, again)
			}
		}
		clear(boxes[:cap(boxes)])
		if later, _ := box.Boxes(u, guards, g[0]); fmt.Sprint(later) != fmt.Sprint(again) {
			t.Errorf("what was answered is kept: %v, %v", later, again)
		}
		if fmt.Sprint(u.Parts[:cap(u.Parts)]) != parts || whole(guards) != guardsWere || whole(g) != gWere {
			t.Errorf("what was handed in is changed: %v, %v, %v", u, guards, g)
		}
	}
	a, b := roomyBox(all(of(1, 5), of(3, 9))), roomyBox(all(of(1, 5), of(3, 9, 11, 12)))
	aWas, bWas := whole(a), whole(b)
	both, _ := box.Meet(a, b)
	scrawl(both)
	box.In(a, []rune{1, 2})
	if whole(a) != aWas || whole(b) != bWas {
		t.Errorf("Meet shares memory, or changes what was handed in: %v, %v", a, b)
	}
}
