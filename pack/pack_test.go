package pack_test

import (
	"bytes"
	"encoding/binary"
	"encoding/hex"
	"fmt"
	"hash/fnv"
	"math"
	"math/rand"
	"slices"
	"strings"
	"testing"

	"umlaut/api"
	"umlaut/codec"
	"umlaut/desc"
	"umlaut/fuse"
	"umlaut/pack"
	"umlaut/table"
	"umlaut/term"
)

// set is the numbers from one to another one.
func set(lo, hi int) []api.Span { return []api.Span{{Lo: lo, Hi: hi}} }

// held is the table of chapter 17's example.
func held() api.Table {
	d := desc.Empty(api.Bytes, api.Bytes)
	d.Rules = []api.Rule{
		{Guards: [][]api.Span{set('a', 'a'), set('b', 'b')}, Eat: 1, Out: []api.Term{term.Const('x')}},
		{Guards: [][]api.Span{set('a', 'a'), append(set(0, 'a'), set('c', 255)...)}, Eat: 2},
	}
	d.Finals = []api.Final{{}}
	t, _ := table.Compile(d)
	return t
}

// numbers is numbers as bytes.
func numbers(l ...int) []byte {
	var b []byte
	for _, x := range l {
		b = binary.BigEndian.AppendUint32(b, uint32(int32(x)))
	}
	return b
}

// terms is terms as bytes.
func terms(l []api.Term) []byte {
	b := numbers(len(l))
	for _, t := range l {
		b = append(b, numbers(t.Base, t.Drop, t.Take, t.Up, t.Sum, len(t.Parts))...)
		for _, p := range t.Parts {
			b = append(b, numbers(p.At, p.Drop, p.Take, p.Up)...)
		}
	}
	return b
}

// body is a table as bytes, by the chapter's words, without the check.
func body(t api.Table) []byte {
	classes := 0
	if len(t.Nodes) > 0 {
		classes = len(t.Nodes[0].Next)
	}
	b := append([]byte("umlt1"), numbers(classes, len(t.Nodes), len(t.Acts), len(t.Ends))...)
	b = append(b, t.Class[:]...)
	for _, n := range t.Nodes {
		b = append(b, numbers(n.Held, n.End)...)
		b = append(b, numbers(n.Next...)...)
	}
	for _, a := range t.Acts {
		b = append(append(b, numbers(a.Eat, a.To)...), terms(a.Out)...)
	}
	for _, l := range t.Ends {
		b = append(b, terms(l)...)
	}
	return b
}

// checked is bytes with their check behind them.
func checked(b []byte) []byte {
	h := fnv.New32a()
	h.Write(b)
	return h.Sum(slices.Clone(b))
}

// text is a table as a text, of which nil and empty lists are one.
func text(t api.Table) string { return fmt.Sprint(t) }

// brief is the beginning of what is told of something.
func brief(l ...any) string {
	s := fmt.Sprint(l...)
	return s[:min(len(s), 2000)]
}

// wantThere asks that a right table is packed as the model has it, and unpacked as it was.
func wantThere(t *testing.T, x api.Table) []byte {
	t.Helper()
	before := text(x)
	b, e := pack.Pack(x)
	if want := checked(body(x)); e != api.OK || !bytes.Equal(b, want) {
		t.Fatalf("Pack: %d, %s, not %s", e, brief(hex.EncodeToString(b)), brief(hex.EncodeToString(want)))
	}
	kept := slices.Clone(b)
	y, e := pack.Unpack(b)
	if e != api.OK || text(y) != before || text(x) != before || !bytes.Equal(b, kept) {
		t.Fatalf("Unpack: %d, %s, not %s", e, brief(y), brief(before))
	}
	return b
}

// wantNone asks of bytes that are no right table's.
func wantNone(t *testing.T, what string, b []byte) {
	t.Helper()
	// Without room behind them, so that no byte beyond them can be read.
	if y, e := pack.Unpack(slices.Clip(b)); e != api.ErrText || text(y) != text(api.Table{}) {
		t.Errorf("%s: %d, %s", what, e, brief(y))
	}
}

// P18.1: the check of bytes: the chapter's examples, known ones, and any.
func TestSum(t *testing.T) {
	for s, want := range map[string]uint32{"": 0x811c9dc5, "a": 0xe40c292c, "foobar": 0xbf9cf968, "\x00": 0x050c5d1f} {
		if got := pack.Sum([]byte(s)); got != want {
			t.Errorf("Sum(%q): %x", s, got)
		}
	}
	r := rand.New(rand.NewSource(18))
	for range 200 {
		b := make([]byte, r.Intn(300))
		r.Read(b)
		h := fnv.New32a()
		h.Write(b)
		if pack.Sum(b) != h.Sum32() {
			t.Errorf("Sum(%x): %x, not %x", b, pack.Sum(b), h.Sum32())
		}
	}
}

// P18.1: the bytes of chapter 17's example, one by one.
func TestExample(t *testing.T) {
	b := wantThere(t, held())
	class := strings.Repeat("00", 'a') + "0102" + strings.Repeat("00", 256-'c')
	want := "756d6c7431" + "00000003" + "00000002" + "00000002" + "00000001" + class +
		"00000000" + "00000000" + "ffffffff" + "00000001" + "ffffffff" +
		"00000001" + "ffffffff" + "fffffffe" + "fffffffe" + "fffffffd" +
		"00000002" + "00000000" + "00000000" +
		"00000001" + "00000000" + "00000001" + "00000000" + "00000000" + "00000015" + "00000000" + "00000078" + "00000000" +
		"00000000"
	if got := hex.EncodeToString(b[:len(b)-4]); got != want {
		t.Errorf("Pack: %s, not %s", got, want)
	}
	if s := pack.Sum(b[:len(b)-4]); !bytes.Equal(b[len(b)-4:], []byte{byte(s >> 24), byte(s >> 16), byte(s >> 8), byte(s)}) {
		t.Errorf("the check: %x, not %x", b[len(b)-4:], s)
	}
}

// wild is any terms, right or not, of numbers of 32 bits.
func wild(r *rand.Rand) []api.Term {
	n := func() int {
		if r.Intn(2) == 0 {
			return r.Intn(9) - 4
		}
		return int(int32(r.Uint32()))
	}
	var l []api.Term
	for range r.Intn(4) {
		x := api.Term{Base: n(), Drop: n(), Take: n(), Up: n(), Sum: n()}
		for range r.Intn(7) {
			x.Parts = append(x.Parts, api.Part{At: n(), Drop: n(), Take: n(), Up: n()})
		}
		l = append(l, x)
	}
	return l
}

// random is any right table: its nodes tell of the first act and end alone.
func random(r *rand.Rand) api.Table {
	x := api.Table{Acts: []api.Act{{Eat: 1, Out: []api.Term{term.Copy(0, -3), {Base: -7, Drop: 1, Take: 2, Up: 3, Sum: 4}}}}, Ends: [][]api.Term{{term.Const('z')}}}
	for range r.Intn(5) {
		x.Acts = append(x.Acts, api.Act{Eat: 1 + r.Intn(4), Out: wild(r)})
		x.Ends = append(x.Ends, wild(r))
	}
	classes := 1 + r.Intn(9)
	for i := range x.Class {
		x.Class[i] = uint8(r.Intn(classes))
	}
	for i := range 1 + r.Intn(9) {
		n := api.Node{Held: min(i, r.Intn(5)), End: r.Intn(2) - 1}
		for range classes {
			n.Next = append(n.Next, max(-r.Intn(3), -1)*(1+r.Intn(2)))
			if last := &n.Next[len(n.Next)-1]; n.Held == 4 || *last == 0 {
				*last = -1
			}
		}
		x.Nodes = append(x.Nodes, n)
	}
	return x
}

// P18.1, P18.2, P18.3: any right tables are packed, and unpacked as they were.
func TestThereAndBack(t *testing.T) {
	r := rand.New(rand.NewSource(181))
	for range 2000 {
		x := random(r)
		if !table.Check(x) {
			t.Fatalf("not right: %v", x)
		}
		wantThere(t, x)
	}
	wantThere(t, api.Table{Nodes: []api.Node{{Next: []int{-1}, End: -1}}})
	for _, d := range []api.Desc{desc.Same(api.Bytes), desc.Empty(api.Bytes, api.Bytes)} {
		x, _ := table.Compile(d)
		wantThere(t, x)
	}
	for _, a := range []api.Desc{codec.Strict(), codec.Repairer()} {
		d, _ := fuse.Fuse(a, desc.Same(api.Scalars), codec.Encoder(), 64)
		x, e := table.Compile(d)
		if e != api.OK {
			t.Fatalf("Compile: %d", e)
		}
		wantThere(t, x)
	}
}

// P18.1: what is as great as may be, and one more.
func TestGreat(t *testing.T) {
	x := api.Table{Acts: slices.Repeat([]api.Act{{Eat: 1, Out: slices.Repeat([]api.Term{term.Copy(0, 0)}, api.MaxOut)}}, api.MaxRules)}
	x.Ends = slices.Repeat([][]api.Term{slices.Repeat([]api.Term{term.Const('x')}, api.MaxOut)}, api.MaxRules)
	for i := range x.Class {
		x.Class[i] = uint8(i)
	}
	for i := range api.MaxNodes {
		x.Nodes = append(x.Nodes, api.Node{Next: slices.Repeat([]int{-2 - i}, 256), End: -1})
	}
	b := wantThere(t, x)
	for what, change := range map[string]func(x *api.Table){
		"a node too many": func(x *api.Table) { x.Nodes = append(slices.Clone(x.Nodes), x.Nodes[0]) },
		"an act too many": func(x *api.Table) { x.Acts = append(slices.Clone(x.Acts), x.Acts[0]) },
		"an end too many": func(x *api.Table) { x.Ends = append(slices.Clone(x.Ends), x.Ends[0]) },
	} {
		y := x
		change(&y)
		wantWrong(t, what, y)
		wantNone(t, what, checked(body(y)))
	}
	b[len(b)/2]++
	wantNone(t, "a byte of a great table", b)
}

// wantWrong asks of a table that has no bytes.
func wantWrong(t *testing.T, what string, x api.Table) {
	t.Helper()
	if b, e := pack.Pack(x); e != api.ErrInvalid || len(b) != 0 {
		t.Errorf("%s: %d, %x", what, e, b)
	}
}

// P18.1, P18.2: what is no right table has no bytes, and what would be its bytes is none.
func TestWrong(t *testing.T) {
	for what, change := range map[string]func(x *api.Table){
		"nothing at all":               func(x *api.Table) { *x = api.Table{} },
		"no nodes":                     func(x *api.Table) { x.Nodes = nil },
		"no Next":                      func(x *api.Table) { x.Class, x.Nodes[0].Next, x.Nodes[1].Next = [256]uint8{}, nil, nil },
		"a class too high":             func(x *api.Table) { x.Class[255] = 3 },
		"a first node that holds":      func(x *api.Table) { x.Nodes[0].Held = 1 },
		"a Held below 0":               func(x *api.Table) { x.Nodes[1].Held = -1 },
		"a Held of 5":                  func(x *api.Table) { x.Nodes[1].Held = 5 },
		"a node that is none":          func(x *api.Table) { x.Nodes[0].Next[1] = 2 },
		"an act that is none":          func(x *api.Table) { x.Nodes[1].Next[1] = -4 },
		"the least number":             func(x *api.Table) { x.Nodes[1].Next[1] = math.MinInt32 },
		"an End that is none":          func(x *api.Table) { x.Nodes[1].End = 1 },
		"an End below -1":              func(x *api.Table) { x.Nodes[1].End = -2 },
		"nothing eaten, not told of":   func(x *api.Table) { x.Acts = append(x.Acts, api.Act{}) },
		"to a node that holds":         func(x *api.Table) { x.Acts[0].To = 1 },
		"terms beyond the window":      func(x *api.Table) { x.Acts[0].Out = []api.Term{term.Copy(2, 0)} },
		"65 terms, not told of":        func(x *api.Table) { x.Ends = append(x.Ends, make([]api.Term, 65)) },
		"65 terms of an act, the same": func(x *api.Table) { x.Acts = append(x.Acts, api.Act{Eat: 1, Out: make([]api.Term, 65)}) },
		"257 Next": func(x *api.Table) {
			for i := range x.Nodes {
				x.Nodes[i].Next = slices.Repeat([]int{-1}, 257)
			}
		},
	} {
		x := held()
		change(&x)
		wantWrong(t, what, x)
		wantNone(t, what, checked(body(x)))
	}
	// Lists that are not all as long have no bytes that could be read.
	x := held()
	x.Nodes[1].Next = x.Nodes[1].Next[:2]
	wantWrong(t, "a Next too short", x)
}

// P18.1: numbers of 32 bits, and others: they can stand only in terms that no node tells of.
func TestWide(t *testing.T) {
	fields := func(x *api.Term) []*int {
		p := &x.Parts[1]
		return []*int{&x.Base, &x.Drop, &x.Take, &x.Up, &x.Sum, &p.At, &p.Drop, &p.Take, &p.Up}
	}
	for i := range 9 {
		for _, act := range []bool{true, false} {
			for v, good := range map[int]bool{
				math.MaxInt32: true, math.MinInt32: true, math.MaxInt32 + 1: false, math.MinInt32 - 1: false,
				math.MaxUint32: false, 1 << 32: false, math.MaxInt: false, math.MinInt: false,
			} {
				terms := []api.Term{term.Copy(0, 0), {Parts: make([]api.Part, 6)}}
				*fields(&terms[1])[i] = v
				x := held()
				if act {
					x.Acts = append(x.Acts, api.Act{Eat: 4, Out: terms})
				} else {
					x.Ends = append(x.Ends, terms)
				}
				if !table.Check(x) {
					t.Fatal("not right")
				}
				if good {
					wantThere(t, x)
				} else {
					wantWrong(t, fmt.Sprint("number ", i, ": ", v), x)
				}
			}
		}
	}
}

// P18.2, P18.3: bytes that are cut off, that have something behind them, or a byte another one, are none.
func TestNone(t *testing.T) {
	b := wantThere(t, held())
	for i := range b {
		wantNone(t, fmt.Sprint("cut off at ", i), b[:i])
		for x := range 256 {
			if byte(x) != b[i] {
				other := slices.Clone(b)
				other[i] = byte(x)
				wantNone(t, fmt.Sprint("byte ", i, " another one"), other)
			}
		}
	}
	for x := range 256 {
		wantNone(t, "a byte behind", append(slices.Clone(b), byte(x)))
	}
	wantNone(t, "twice", slices.Repeat(b, 2))
	wantNone(t, "nil", nil)
	wantNone(t, "the check of nothing", checked(nil))
	wantNone(t, "the name alone", checked([]byte("umlt1")))
	wantNone(t, "another name", checked(append([]byte("umlt2"), b[5:len(b)-4]...)))
	wantNone(t, "no name", checked(b[5:len(b)-4]))
}

// P18.2: with the right check, too, bytes that are cut off or have more behind them are none, and others are a table's only if they are its bytes.
func TestNoneChecked(t *testing.T) {
	x := held()
	x.Acts = append(x.Acts, api.Act{Eat: 4, Out: []api.Term{{Parts: make([]api.Part, 6)}, {}}})
	b := body(x)
	for i := range b {
		wantNone(t, fmt.Sprint("cut off at ", i), checked(b[:i]))
	}
	for n := 1; n < 40; n++ {
		wantNone(t, fmt.Sprint(n, " bytes behind"), checked(append(slices.Clone(b), make([]byte, n)...)))
	}
	good := 0
	for i := range b {
		for _, v := range []byte{b[i] + 1, b[i] - 1, b[i] ^ 0x80, 0xff, 0x7f} {
			other := slices.Clone(b)
			other[i] = v
			y, e := pack.Unpack(checked(other))
			if e == api.OK && table.Check(y) && bytes.Equal(body(y), other) {
				good++
			} else if e != api.ErrText || text(y) != text(api.Table{}) {
				t.Errorf("byte %d: %d, %v", i, e, y)
			}
		}
	}
	if good < 100 {
		t.Errorf("only %d tables", good)
	}
}

// P18.2: numbers of how many there are that are below 0, too great, or the greatest are none, whatever is behind them.
func TestCounts(t *testing.T) {
	x := held()
	x.Acts = append(x.Acts, api.Act{Eat: 4, Out: []api.Term{{Parts: make([]api.Part, 6)}, {}}})
	b := body(x)
	nodes := 5 + 4*4 + 256
	acts := nodes + 4*(2*2+6)
	told := acts + 4*3 + 4*(3+6) // the act that no node tells of
	for what, at := range map[string]int{
		"classes": 5, "nodes": 9, "acts": 13, "ends": 17,
		"terms": told + 8, "parts": told + 12 + 20, "terms of an end": len(b) - 4,
	} {
		n := int(int32(binary.BigEndian.Uint32(b[at:])))
		for _, v := range []int{-1, n - 1, n + 1, n + 1<<16, n + 1<<24, math.MaxInt32, math.MinInt32, math.MinInt32 + n, 4095, 4097, 256, 257, 64, 65} {
			other := slices.Clone(b)
			copy(other[at:], numbers(v))
			wantNone(t, fmt.Sprint(what, ": ", v, " for ", n), checked(other))
			wantNone(t, fmt.Sprint(what, ": ", v, " for ", n, ", and much behind"), checked(append(other, make([]byte, 1<<16)...)))
		}
	}
}

// P18.2, P18.3: what is handed in stays as it was, and what is answered is new memory.
func TestMemory(t *testing.T) {
	x := random(rand.New(rand.NewSource(4)))
	before := text(x)
	b, _ := pack.Pack(x)
	kept := slices.Clone(b)
	y, _ := pack.Unpack(b)
	clear(b)
	if text(y) != before {
		t.Error("Unpack shares memory with its bytes")
	}
	for i := range y.Nodes {
		_ = append(y.Nodes[i].Next, 77)
		for j := range y.Nodes[i].Next {
			y.Nodes[i].Next[j] = 66
		}
		if again := text(y); i+1 < len(y.Nodes) && slices.Contains(y.Nodes[i+1].Next, 77) {
			t.Errorf("two lists share memory: %s", again)
		}
	}
	lists := slices.Clone(y.Ends)
	for _, a := range y.Acts {
		lists = append(lists, a.Out)
	}
	for i, l := range lists {
		others := fmt.Sprint(lists[i+1:])
		_ = append(l, api.Term{Sum: 77})
		for j := range l {
			rest := fmt.Sprint(l[j+1:])
			_ = append(l[j].Parts, api.Part{At: 77})
			clear(l[j].Parts)
			if fmt.Sprint(l[j+1:]) != rest {
				t.Error("the parts of two terms share memory")
			}
		}
		clear(l)
		if fmt.Sprint(lists[i+1:]) != others {
			t.Error("two lists of terms share memory")
		}
	}
	if c, _ := pack.Pack(x); text(x) != before || !bytes.Equal(c, kept) {
		t.Error("Pack changes its table")
	}
}
