package drive_test

import (
	"bytes"
	"fmt"
	"math/rand"
	"slices"
	"testing"

	"umlaut/api"
	"umlaut/codec"
	"umlaut/desc"
	"umlaut/drive"
	"umlaut/fuse"
	"umlaut/run"
	"umlaut/sole"
	"umlaut/table"
	"umlaut/term"
	"umlaut/utf"
	"umlaut/word"
)

// set is the numbers from one to another one.
func set(lo, hi int) []api.Span { return []api.Span{{Lo: lo, Hi: hi}} }

// held is the table of chapter 17's example: {a, b} eats 1, writes x; {a, not b} eats 2, writes nothing.
func held() api.Table {
	d := desc.Empty(api.Bytes, api.Bytes)
	d.Rules = []api.Rule{
		{Guards: [][]api.Span{set('a', 'a'), set('b', 'b')}, Eat: 1, Out: []api.Term{term.Const('x')}},
		{Guards: [][]api.Span{set('a', 'a'), append(set(0, 'a'), set('c', 255)...)}, Eat: 2},
	}
	d.Finals = []api.Final{{}}
	t, _ := table.Compile(d)
	return t
}

// opened is a driver of a table that is right.
func opened(t *testing.T, x api.Table) *drive.Driver {
	t.Helper()
	d, e := drive.New(x)
	if e != api.OK || d == nil {
		t.Fatalf("New: %d: %v", e, x)
	}
	return d
}

// wantAt asks where a driver is and what it holds.
func wantAt(t *testing.T, what string, d *drive.Driver, node int, held string) {
	t.Helper()
	if d.Node() != node || string(d.Held()) != held {
		t.Errorf("%s: node %d, held %q, not %d, %q", what, d.Node(), d.Held(), node, held)
	}
}

// wantTold asks what a call answered.
func wantTold(t *testing.T, what string, b []byte, e api.Errno, want string, errno api.Errno) {
	t.Helper()
	if string(b) != want || e != errno {
		t.Errorf("%s: %q, %d, not %q, %d", what, b, e, want, errno)
	}
}

// P19.1: New of what is no right table, and of one.
func TestNew(t *testing.T) {
	for what, change := range map[string]func(x *api.Table){
		"zero":               func(x *api.Table) { *x = api.Table{} },
		"a class too high":   func(x *api.Table) { x.Class[0] = 3 },
		"an act not right":   func(x *api.Table) { x.Acts = append(x.Acts, api.Act{}) },
		"a node not right":   func(x *api.Table) { x.Nodes[0].Next[0] = 9 },
		"an end not right":   func(x *api.Table) { x.Nodes[1].End = 1 },
		"terms not right":    func(x *api.Table) { x.Acts[0].Out = []api.Term{term.Copy(2, 0)} },
		"no node that holds": func(x *api.Table) { x.Nodes = x.Nodes[:1] },
	} {
		x := held()
		change(&x)
		if d, e := drive.New(x); d != nil || e != api.ErrInvalid {
			t.Errorf("%s: %v, %d", what, d, e)
		}
		b, e := drive.Run(x, []byte("a"))
		wantTold(t, what, b, e, "", api.ErrInvalid)
	}
	d := opened(t, held())
	wantAt(t, "new", d, 0, "")
	b, e := d.Write(nil)
	wantTold(t, "Write of nothing", b, e, "", api.OK)
	wantAt(t, "new, nothing written", d, 0, "")
}

// P19.1: what is written into the table later counts for nothing, wherever.
func TestOwn(t *testing.T) {
	x := held()
	x.Acts[0].Out = []api.Term{term.Copy(1, 0)}
	x.Ends[0] = []api.Term{term.Const('z')}
	x.Acts, x.Ends = append(make([]api.Act, 0, 9), x.Acts...), append(make([][]api.Term, 0, 9), x.Ends...)
	d := opened(t, x)
	x.Acts[0].Out[0].Parts[0].At = 0
	x.Acts[1].Out[0] = term.Const('p')
	x.Acts[0].Eat, x.Acts[1].To = 1, 1
	x.Ends[0][0].Sum = 'q'
	x.Nodes[0].Next[1], x.Nodes[1].Next[0] = -1, -1
	x.Nodes[0] = api.Node{Held: 4}
	x.Class = [256]uint8{}
	b, e := d.Write([]byte("acaaa"))
	wantTold(t, "Write", b, e, "ca", api.OK)
	wantAt(t, "Write", d, 1, "a")
	b, e = d.Write([]byte("x"))
	wantTold(t, "Write", b, e, "x", api.OK)
	b, e = d.Close()
	wantTold(t, "Close", b, e, "z", api.OK)
}

// P19.2, P19.3: the chapter's example, and what comes behind it.
func TestExample(t *testing.T) {
	d := opened(t, held())
	b, e := d.Write([]byte("a"))
	wantTold(t, "Write of a", b, e, "", api.OK)
	wantAt(t, "Write of a", d, 1, "a")
	b, e = d.Write([]byte("b"))
	wantTold(t, "Write of b", b, e, "x", api.ErrReject)
	wantAt(t, "Write of b", d, 0, "")
	for range 2 {
		b, e = d.Write([]byte("a"))
		wantTold(t, "Write of what rejects", b, e, "", api.ErrReject)
		b, e = d.Write(nil)
		wantTold(t, "Write of nothing", b, e, "", api.ErrReject)
		b, e = d.Close()
		wantTold(t, "Close of what rejects", b, e, "", api.ErrReject)
		b, e = d.Copy().Close()
		wantTold(t, "Close of its copy", b, e, "", api.ErrReject)
		wantAt(t, "what rejects", d, 0, "")
		wantAt(t, "its copy", d.Copy(), 0, "")
	}
	b, e = drive.Run(held(), []byte("acaaac"))
	wantTold(t, "Run", b, e, "", api.OK)
	b, e = drive.Run(held(), []byte("ab"))
	wantTold(t, "Run of what is rejected", b, e, "", api.ErrReject)
	b, e = drive.Run(held(), []byte("aca"))
	wantTold(t, "Run of what has no end", b, e, "", api.ErrReject)
}

// P19.2: what a call writes ahead of rejecting stands beside the error, and only that of this call.
func TestReject(t *testing.T) {
	x := held()
	x.Acts[0].Out = []api.Term{term.Const('p'), term.Const('q')}
	d := opened(t, x)
	b, e := d.Write([]byte("aca"))
	wantTold(t, "Write", b, e, "pq", api.OK)
	b, e = d.Write([]byte("cacabac"))
	wantTold(t, "Write", b, e, "pqpqx", api.ErrReject)
	b, e = drive.Run(x, []byte("acb"))
	wantTold(t, "Run", b, e, "", api.ErrReject)
	d = opened(t, x)
	b, e = d.Write([]byte("aca"))
	wantTold(t, "Write", b, e, "pq", api.OK)
	b, e = d.Close() // a is held, of which there is no end
	wantTold(t, "Close", b, e, "", api.ErrReject)
	wantAt(t, "Close", d, 0, "")
	b, e = d.Close()
	wantTold(t, "Close again", b, e, "", api.ErrReject)
	b, e = d.Write([]byte("a"))
	wantTold(t, "Write then", b, e, "", api.ErrReject)
}

// P19.2, P19.3: of what is closed.
func TestClosed(t *testing.T) {
	x := held()
	x.Ends = append(x.Ends, []api.Term{term.Copy(0, 1), term.Copy(0, 2)})
	x.Nodes[1].End = 1
	d := opened(t, x)
	b, e := d.Write([]byte("aca"))
	wantTold(t, "Write", b, e, "", api.OK)
	ahead := d.Copy()
	b, e = d.Close()
	wantTold(t, "Close", b, e, "bc", api.OK)
	for _, c := range []*drive.Driver{d, d.Copy()} {
		wantAt(t, "closed", c, 1, "a")
		b, e = c.Close()
		wantTold(t, "Close of what is closed", b, e, "", api.ErrState)
		b, e = c.Write([]byte("c"))
		wantTold(t, "Write to what is closed", b, e, "", api.ErrState)
		b, e = c.Write(nil)
		wantTold(t, "Write of nothing", b, e, "", api.ErrState)
		wantAt(t, "closed still", c, 1, "a")
	}
	b, e = ahead.Write([]byte("ca"))
	wantTold(t, "Write to the copy", b, e, "", api.OK)
	b, e = ahead.Close()
	wantTold(t, "Close of the copy", b, e, "bc", api.OK)
}

// P19.2, P19.3: of a nil driver.
func TestNil(t *testing.T) {
	var d *drive.Driver
	for _, l := range [][]byte{nil, []byte("a")} {
		b, e := d.Write(l)
		wantTold(t, "Write", b, e, "", api.ErrArg)
	}
	b, e := d.Close()
	wantTold(t, "Close", b, e, "", api.ErrArg)
	wantAt(t, "nil", d, 0, "")
	if d.Copy() != nil {
		t.Error("Copy of nil")
	}
}

// line is a table of as many nodes as hold 0 to 4 bytes, that go on with any byte; the acts are its to change.
func line() api.Table {
	x := api.Table{Ends: [][]api.Term{nil}}
	for i := range 5 {
		x.Nodes = append(x.Nodes, api.Node{Held: i, Next: []int{i + 1, i + 1}, End: 0})
	}
	x.Nodes[4].Next = []int{-1, -1}
	x.Class['!'] = 1
	return x
}

// P19.2: of a whole window is held what is left when an act has eaten some of it, and its terms see all of it.
func TestWindow(t *testing.T) {
	all := []api.Term{term.Copy(3, 0), term.Copy(2, 0), term.Copy(1, 0), term.Copy(0, 0)}
	for eat := 1; eat <= 4; eat++ {
		x := line()
		x.Nodes[3].Next[0] = -2
		x.Acts = []api.Act{{Eat: eat, Out: all}}
		d := opened(t, x)
		b, e := d.Write([]byte("abc"))
		wantTold(t, "three", b, e, "", api.OK)
		wantAt(t, "three", d, 3, "abc")
		b, e = d.Write([]byte("d"))
		wantTold(t, "four", b, e, "dcba", api.OK)
		wantAt(t, "four", d, 4-eat, "abcd"[eat:])
	}
	// As many bytes as may be are held; with one more it rejects.
	d := opened(t, line())
	for i := range 5 {
		wantAt(t, "line", d, i, "wxyz"[:i])
		if b, e := d.Copy().Close(); len(b) != 0 || e != api.OK {
			t.Errorf("Close of %d held: %q, %d", i, b, e)
		}
		b, e := d.Write([]byte{"wxyz."[i]})
		wantTold(t, "line", b, e, "", []api.Errno{api.OK, api.ErrReject}[i/4])
	}
	wantAt(t, "five", d, 0, "")
}

// P19.2: what is left of a window may bring further acts, whose own windows' rest is taken ahead of it.
func TestLeft(t *testing.T) {
	x := line()
	x.Nodes = append(x.Nodes, api.Node{Next: []int{-3, 6}, End: 0}, api.Node{Held: 1, Next: []int{-4, -4}, End: -1})
	x.Nodes[3].Next[1] = -2
	x.Acts = []api.Act{
		{Eat: 1, To: 5, Out: []api.Term{term.Copy(0, 0)}},
		{Eat: 1, To: 5, Out: []api.Term{term.Const('('), term.Copy(0, 0), term.Const(')')}},
		{Eat: 1, To: 0, Out: []api.Term{term.Const('<'), term.Copy(0, 0), term.Copy(1, 0), term.Const('>')}},
	}
	d := opened(t, x)
	b, e := d.Write([]byte("abc!"))
	wantTold(t, "Write", b, e, "a(b)(c)", api.OK)
	wantAt(t, "Write", d, 6, "!")
	b, e = d.Write([]byte("d"))
	wantTold(t, "Write", b, e, "<!d>", api.OK)
	wantAt(t, "Write", d, 1, "d")
	// In the midst of what is left it rejects: the rest counts no more.
	x.Nodes[5].Next[0] = -1
	b, e = opened(t, x).Write([]byte("abc!x"))
	wantTold(t, "Write", b, e, "a", api.ErrReject)
}

// P19.2: the lowest eight bits of a value are written, and nothing where there is none.
func TestValues(t *testing.T) {
	x := line()
	x.Nodes[0].Next[0], x.Nodes[0].Next[1] = -2, -3
	values := []api.Term{
		term.Const(0x1ff), {Base: -1, Take: 1}, {Base: -257, Take: 1}, term.Const(0x10ffff), {Sum: -1, Take: 21},
		{Base: 0x10ffff, Take: 21, Sum: 0x10ffff}, {Sum: 0x10ffff, Take: 21, Parts: []api.Part{{Take: 21}}}, term.Copy(0, 200), term.Copy(0, -100),
	}
	x.Acts = []api.Act{{Eat: 1, Out: values}, {Eat: 1}}
	x.Ends = [][]api.Term{{{Sum: -1, Take: 21}, {Base: -2, Take: 1}}}
	d := opened(t, x)
	b, e := d.Write([]byte("a!"))
	wantTold(t, "Write of a", b, e, "\xff\xff\xff\xff\xfe\x29", api.OK)
	b, e = d.Write([]byte{0, 200})
	wantTold(t, "Write of 0 and 200", b, e, "\xff\xff\xff\xff\xfe\xff\xc8"+"\xff\xff\xff\xff\xfe\x90\x64", api.OK)
	b, e = d.Close()
	wantTold(t, "Close", b, e, "\xfe", api.OK)
}

// follow has a driver take bytes in any chunks, copies now and then, and holds it against the model; bytes is all of them, from the beginning on.
func follow(t *testing.T, r *rand.Rand, x api.Table, b []byte) {
	t.Helper()
	d := opened(t, x)
	var out []byte
	for at := 0; at < len(b); {
		n := min([]int{0, 1, 2, 3, 9}[r.Intn(5)], len(b)-at)
		before := len(d.Held())
		other := d.Copy()
		w, e := d.Write(b[at : at+n])
		at += n
		out = append(out, w...)
		c := courseOf(x, b[:at])
		if e != (api.OK) != c.rejects || e != api.OK && e != api.ErrReject || !bytes.Equal(out, c.out) {
			t.Fatalf("%x to %d: %d, %x, not %v, %x: %v", b, at, e, out, c.rejects, c.out, x)
		}
		if d.Node() != c.node || !bytes.Equal(d.Held(), c.held) || len(d.Held()) > api.MaxWindow || len(d.Held()) != x.Nodes[d.Node()].Held {
			t.Fatalf("%x to %d: node %d, held %x, not %d, %x: %v", b, at, d.Node(), d.Held(), c.node, c.held, x)
		}
		if gone := before + n - len(d.Held()); len(w) > table.Most(x)*gone {
			t.Fatalf("%x to %d: %d are written of %d that are gone: %v", b, at, len(w), gone, x)
		}
		if again, f := other.Write(b[at-n : at]); f != e || !bytes.Equal(again, w) || other.Node() != d.Node() || !bytes.Equal(other.Held(), d.Held()) {
			t.Fatalf("%x to %d: the copy: %d, %x: %v", b, at, f, again, x)
		}
		wantClosed(t, x, other, c)
		if e != api.OK {
			return
		}
	}
	wantClosed(t, x, d, courseOf(x, b))
}

// wantClosed closes a driver and holds it against the model.
func wantClosed(t *testing.T, x api.Table, d *drive.Driver, c course) {
	t.Helper()
	want, ok := c.end(x)
	w, e := d.Close()
	if e != (api.OK) == ok || e != api.OK && e != api.ErrReject || !bytes.Equal(w, want) || len(w) > table.Most(x) {
		t.Fatalf("Close: %d, %x, not %v, %x: %v", e, w, ok, want, x)
	}
	node, held := c.node, c.held
	if !ok {
		node, held = 0, nil
	}
	if d.Node() != node || !bytes.Equal(d.Held(), held) {
		t.Fatalf("closed: node %d, held %x, not %d, %x: %v", d.Node(), d.Held(), node, held, x)
	}
}

// wantRun asks what Run makes of bytes.
func wantRun(t *testing.T, x api.Table, b []byte) bool {
	t.Helper()
	c := courseOf(x, b)
	end, ok := c.end(x)
	got, e := drive.Run(x, b)
	if ok != (e == api.OK) || !ok && (e != api.ErrReject || len(got) != 0) || ok && !bytes.Equal(got, append(slices.Clone(c.out), end...)) {
		t.Fatalf("Run of %x: %d, %x, not %v, %x, %x: %v", b, e, got, ok, c.out, end, x)
	}
	return ok
}

// P19.1 to P19.4: any right tables, in any chunks, as the model has it.
func TestRandom(t *testing.T) {
	r := rand.New(rand.NewSource(19))
	accepted := 0
	for range 3000 {
		x := random(r)
		if !table.Check(x) {
			t.Fatalf("not right: %v", x)
		}
		before := fmt.Sprint(x)
		for range 12 {
			b := randomBytes(r, 30)
			follow(t, r, x, b)
			if wantRun(t, x, b) {
				accepted++
			}
		}
		if fmt.Sprint(x) != before {
			t.Fatalf("a table is changed: %v", x)
		}
	}
	if accepted < 3000 {
		t.Errorf("only %d are accepted", accepted)
	}
}

// P19.3: copies go on by themselves.
func TestCopy(t *testing.T) {
	d := opened(t, line())
	d.Write([]byte("ab"))
	other := d.Copy()
	if other == d {
		t.Fatal("Copy is the driver itself")
	}
	d.Write([]byte("c"))
	other.Write([]byte("x"))
	wantAt(t, "the one", d, 3, "abc")
	wantAt(t, "the other one", other, 3, "abx")
	other.Write([]byte("yz"))
	wantAt(t, "the one", d, 3, "abc")
	wantAt(t, "the other one rejects", other, 0, "")
	if b, e := d.Close(); len(b) != 0 || e != api.OK {
		t.Errorf("Close: %q, %d", b, e)
	}
}

// P19.2, P19.3: what is handed in stays as it was, and what is answered is new memory.
func TestMemory(t *testing.T) {
	x := held()
	x.Acts[0].Out = []api.Term{term.Copy(1, 0)}
	x.Ends = append(x.Ends, []api.Term{term.Copy(0, 0)})
	x.Nodes[1].End = 1
	d := opened(t, x)
	room := []byte("aca!!!!")
	w, _ := d.Write(room[:3])
	if string(room) != "aca!!!!" {
		t.Errorf("what was written is changed: %q", room)
	}
	clear(room)
	h := d.Held()
	_ = append(h, 'z')
	clear(h)
	_ = append(w, 'z')
	clear(w)
	wantAt(t, "held", d, 1, "a")
	w, e := d.Write([]byte("d"))
	wantTold(t, "Write", w, e, "d", api.OK)
	d.Write([]byte("a"))
	w, e = d.Close()
	wantTold(t, "Close", w, e, "a", api.OK)
	clear(w)
	wantAt(t, "closed", d, 1, "a")
}

// randomDesc is a sole description from bytes to bytes, of a to d and all other bytes.
func randomDesc(r *rand.Rand) api.Desc {
	states := 1 + r.Intn(3)
	d := desc.Empty(api.Bytes, api.Bytes)
	d.States, d.Start = states, r.Intn(states)
	guards := func(n int) [][]api.Span {
		var l [][]api.Span
		for range n {
			lo := 'a' + r.Intn(4)
			l = append(l, set(lo, min(lo+r.Intn(2), 'd')))
		}
		return l
	}
	write := func(g [][]api.Span) []api.Term {
		var l []api.Term
		for range r.Intn(4) {
			l = append(l, term.Const(rune('p'+r.Intn(4))))
			if len(g) > 0 {
				l = append(l, term.Copy(r.Intn(len(g)), r.Intn(3)))
			}
		}
		return l
	}
	for range states * (2 + r.Intn(6)) {
		g := guards(1 + r.Intn(4))
		d.Rules = append(d.Rules, api.Rule{From: r.Intn(states), To: r.Intn(states), Guards: g, Eat: 1 + r.Intn(len(g)), Out: write(g)})
	}
	for range states * 3 {
		g := guards(r.Intn(5))
		d.Finals = append(d.Finals, api.Final{From: r.Intn(states), Guards: g, Out: write(g)})
	}
	for {
		_, k, yes := sole.Clash(d)
		switch n := len(d.Rules); {
		case !yes:
			return d
		case k < n:
			d.Rules = slices.Delete(d.Rules, k, k+1)
		default:
			d.Finals = slices.Delete(d.Finals, k-n, k-n+1)
		}
	}
}

// P19.4: of what is compiled Run writes what its input is related to, and at any time some way has written that.
func TestCompiled(t *testing.T) {
	r := rand.New(rand.NewSource(194))
	related := 0
	for range 1500 {
		d := randomDesc(r)
		x, e := table.Compile(d)
		if e != api.OK {
			t.Fatalf("Compile: %d: %v", e, d)
		}
		for range 20 {
			b := randomBytes(r, 8)
			for i := range b {
				b[i] = 'a' + b[i]%4
			}
			l, _ := run.Outputs(d, word.Raw(b), 2)
			got, e := drive.Run(x, b)
			if len(l) > 1 || len(l) == 0 != (e == api.ErrReject) || len(l) == 1 && (e != api.OK || !slices.Equal(word.Raw(got), l[0])) {
				t.Fatalf("Run of %q: %d, %q, not %v: %v", b, e, got, l, d)
			}
			related += len(l)
			wantAhead(t, d, opened(t, x), b)
		}
	}
	if related < 1500 {
		t.Errorf("only %d are related to something", related)
	}
}

// wantAhead asks that what a driver has written at any time is what the description's way has written that has eaten no more than has come.
func wantAhead(t *testing.T, d api.Desc, driver *drive.Driver, b []byte) {
	t.Helper()
	eaten, written := way(d, b)
	var out []byte
	for n := range b {
		w, e := driver.Write(b[n : n+1])
		out = append(out, w...)
		ok := false
		for i := range eaten {
			ok = ok || eaten[i] <= n+1 && bytes.Equal(written[i], out)
		}
		if !ok {
			t.Fatalf("%q to %d: %q, but the way writes %q of %v: %v", b, n, out, written, eaten, d)
		}
		if e != api.OK {
			return
		}
	}
}

// P19.4: long inputs, of a table that decodes and encodes, in great and small chunks.
func TestLong(t *testing.T) {
	d, _ := fuse.Fuse(codec.Repairer(), desc.Same(api.Scalars), codec.Encoder(), 64)
	x, e := table.Compile(d)
	if e != api.OK {
		t.Fatalf("Compile: %d", e)
	}
	r := rand.New(rand.NewSource(4))
	b := make([]byte, 1<<20)
	for i := range b {
		b[i] = []byte{'a', 0xc3, 0xbc, 0xe2, 0x82, 0xac, 0xf0, 0x90, 0x90, 0xb7, 0xff}[r.Intn(11)]
	}
	want := []byte(string(utf.Repair(b)))
	got, e := drive.Run(x, b)
	if e != api.OK || !bytes.Equal(got, want) {
		t.Errorf("Run: %d, %d bytes, not %d", e, len(got), len(want))
	}
	driver := opened(t, x)
	got = nil
	for len(b) > 0 {
		n := min(r.Intn(7), len(b))
		w, _ := driver.Write(b[:n])
		got, b = append(got, w...), b[n:]
	}
	w, e := driver.Close()
	if got = append(got, w...); e != api.OK || !bytes.Equal(got, want) {
		t.Errorf("in chunks: %d, %d bytes, not %d", e, len(got), len(want))
	}
}
