package ship_test

import (
	"bytes"
	"fmt"
	"math"
	"math/rand"
	"reflect"
	"slices"
	"strings"
	"testing"
	"unicode/utf8"

	"umlaut/api"
	"umlaut/codec"
	"umlaut/desc"
	"umlaut/drive"
	"umlaut/escape"
	"umlaut/fuse"
	"umlaut/run"
	"umlaut/ship"
	"umlaut/sole"
	"umlaut/table"
	"umlaut/word"
)

// machine is a kind's machine.
func machine(t *testing.T, kind int) api.Desc {
	t.Helper()
	d, e := ship.Machine(kind)
	if e != api.OK {
		t.Fatalf("Machine(%d): %d", kind, e)
	}
	return d
}

// P27.1: no kind.
func TestNoKind(t *testing.T) {
	for _, kind := range []int{0, 5, -1, -2, 6, 257, 1 << 32, 1<<32 + 1, math.MaxInt, math.MinInt, math.MinInt + 1} {
		if d, e := ship.Machine(kind); e != api.ErrArg || fmt.Sprint(d) != fmt.Sprint(api.Desc{}) {
			t.Errorf("Machine(%d): %v, %d", kind, d, e)
		}
		if x, e := ship.Table(kind); e != api.ErrArg || fmt.Sprint(x) != fmt.Sprint(api.Table{}) {
			t.Errorf("Table(%d): %v, %d", kind, x, e)
		}
		for _, b := range [][]byte{nil, []byte("a"), {0xff}} {
			if l, ok := ship.Direct(kind, b); ok || len(l) != 0 {
				t.Errorf("Direct(%d, %x): %x, %v", kind, b, l, ok)
			}
			if l, e := ship.Clean(kind, b); e != api.ErrArg || len(l) != 0 {
				t.Errorf("Clean(%d, %x): %x, %d", kind, b, l, e)
			}
		}
		if d, e := ship.Open(kind); e != api.ErrArg || d != nil {
			t.Errorf("Open(%d): %v, %d", kind, d, e)
		}
	}
}

// P27.1: what kind of descriptions the machines are, and their tables.
func TestMachines(t *testing.T) {
	if ship.Budget != 64 {
		t.Errorf("Budget: %d", ship.Budget)
	}
	for kind := 1; kind <= 4; kind++ {
		d := machine(t, kind)
		if d.In != api.Bytes || d.Out != api.Bytes || desc.Check(d) != api.OK || !desc.Free(d) || d.States > ship.Budget {
			t.Errorf("Machine(%d): %v", kind, d)
		}
		if ok, e := sole.Sole(d); !ok || e != api.OK {
			t.Errorf("Machine(%d) is not sole: %d", kind, e)
		}
		x, e := ship.Table(kind)
		want, _ := table.Compile(d)
		if e != api.OK || !table.Check(x) || fmt.Sprint(x) != fmt.Sprint(want) {
			t.Errorf("Table(%d): %d, %v, not %v", kind, e, x, want)
		}
	}
	for kind, decoder := range map[int]api.Desc{1: codec.Strict(), 2: codec.Repairer()} {
		if n, e := fuse.Need(decoder, escape.Html(), codec.Encoder()); n > ship.Budget || e != api.OK {
			t.Errorf("kind %d needs %d, %d", kind, n, e)
		}
	}
}

// wantMade asks what a kind makes of bytes, by all calls that tell of it.
func wantMade(t *testing.T, kind int, b []byte, want string, ok bool) {
	t.Helper()
	before := slices.Clone(b[:cap(b)])
	got, gotOK := ship.Direct(kind, b)
	if gotOK != ok || string(got) != want {
		t.Fatalf("Direct(%d, %q): %q, %v, not %q, %v", kind, b, got, gotOK, want, ok)
	}
	errno := api.OK
	if !ok {
		errno = api.ErrReject
	}
	if got, e := ship.Clean(kind, b); e != errno || string(got) != want {
		t.Fatalf("Clean(%d, %q): %q, %d, not %q, %d", kind, b, got, e, want, errno)
	}
	if !bytes.Equal(before, b[:cap(b)]) {
		t.Fatalf("%q was changed to %q", before, b[:cap(b)])
	}
}

// P27.2: the chapters' examples, and what else is known.
func TestExamples(t *testing.T) {
	for _, c := range []struct {
		kind    int
		b, want string
		ok      bool
	}{
		{1, "<ü>", "&lt;ü&gt;", true}, {1, "\x3c\xc3\xbc", "\x26\x6c\x74\x3b\xc3\xbc", true}, {1, "\xc3", "", false}, {1, "", "", true},
		{1, "&<>\"'", "&amp;&lt;&gt;&quot;&#39;", true}, {1, "&amp;", "&amp;amp;", true}, {1, "\x00\ufffd\U0010ffff", "\x00\ufffd\U0010ffff", true},
		{1, "<\xff", "", false}, {1, "\xff<", "", false}, {1, "\xed\xa0\x80", "", false}, {1, "\xc0\x80", "", false}, {1, "\xf4\x90\x80\x80", "", false}, {1, "\xe2\x82", "", false},
		{2, "\xc3", "\xef\xbf\xbd", true}, {2, "<\xc3>", "&lt;\ufffd&gt;", true}, {2, "a\xe2\x82b", "a\ufffdb", true}, {2, "\xf0\x80\x80", "\ufffd\ufffd\ufffd", true},
		{2, "\xf0\x90\x80", "\ufffd", true}, {2, "\xf0\x90\x80\xf0\x90\x80\x80", "\ufffd\U00010000", true}, {2, "\xe2\x82<", "\ufffd&lt;", true}, {2, "", "", true}, {2, "\xed\xa0\x80", "\ufffd\ufffd\ufffd", true},
		{3, "a b/", "a%20b%2F", true}, {3, "%2F~", "%252F~", true}, {3, "\xff\x00\n", "%FF%00%0A", true}, {3, "", "", true}, {3, "AZaz09-._~", "AZaz09-._~", true}, {3, "ü", "%C3%BC", true},
		{4, "%2f%zz%4", "/%zz%4", true}, {4, "%41%4", "A%4", true}, {4, "%%41", "%A", true}, {4, "%%%", "%%%", true}, {4, "%2541", "%41", true}, {4, "a+b", "a+b", true}, {4, "", "", true},
		{4, "%fF%Ff%00", "\xff\xff\x00", true}, {4, "%", "%", true}, {4, "%a", "%a", true}, {4, "%ag%ga%", "%ag%ga%", true}, {4, "\xff%61", "\xffa", true}, {4, "%4%41", "%4A", true}, {4, "%+1% 1%0x", "%+1% 1%0x", true},
	} {
		wantMade(t, c.kind, []byte(c.b), c.want, c.ok)
	}
}

// P27.2: any bytes.
func TestMade(t *testing.T) {
	m := newModel()
	r := random{rand.New(rand.NewSource(27))}
	for range 600 {
		b := r.bytes(80)
		for kind := 1; kind <= 4; kind++ {
			want, ok := m.makes(kind, b)
			wantMade(t, kind, b, want, ok)
		}
	}
	for range 3 {
		b := r.bytes(1 << 20)
		for kind := 1; kind <= 4; kind++ {
			want, ok := m.makes(kind, b)
			wantMade(t, kind, b, want, ok)
		}
	}
}

// driven is all that a driver writes of bytes; false, if it rejects.
func driven(d *drive.Driver, b []byte) (string, bool) {
	out, e := d.Write(b)
	end, f := d.Close()
	if e != api.OK || f != api.OK {
		return "", false
	}
	return string(out) + string(end), true
}

// P27.1, P27.2: the machines relate bytes to what their kinds make of them alone; so do Direct and the tables: all words of a few bytes of each sort, and all pairs.
func TestAllShort(t *testing.T) {
	m := newModel()
	const edges = "<a\x80\x8f\x90\xa0\xbf\xc2\xe0\xe1\xed\xf0\xf1\xf4\xff"
	for kind, some := range map[int]string{1: edges, 2: edges, 3: "aZ0/:@[`{~.%\x00\xff ", 4: "%04aFgG/\xff"} {
		d := machine(t, kind)
		open, _ := ship.Open(kind)
		ask := func(b []byte) {
			want, ok := m.makes(kind, b)
			got, gotOK := ship.Direct(kind, b)
			flat, flatOK := driven(open.Copy(), b)
			if gotOK != ok || flatOK != ok || string(got) != want || flat != want {
				t.Fatalf("kind %d, of %x: %x, %v; the table: %x, %v; not %x, %v", kind, b, got, gotOK, flat, flatOK, want, ok)
			}
			if len(b) > 3 {
				return
			}
			l, e := run.Outputs(d, word.Raw(b), 2)
			if e != api.OK || (len(l) == 1) != ok || ok && !slices.Equal(l[0], word.Raw([]byte(want))) {
				t.Fatalf("kind %d, the machine, of %x: %x, %d, not %x, %v", kind, b, l, e, want, ok)
			}
		}
		for l, n := []string{""}, 0; n <= 4; n++ {
			var next []string
			for _, s := range l {
				ask([]byte(s))
				for _, x := range []byte(some) {
					next = append(next, s+string([]byte{x}))
				}
			}
			l = next
		}
		for x := range 256 {
			ask([]byte{byte(x)})
			for y := range 256 {
				// Behind something, and ahead of it.
				ask([]byte{'a', byte(x), byte(y), 'a'})
			}
		}
	}
}

// P27.1: all scalars, one behind the other.
func TestScalars(t *testing.T) {
	m := newModel()
	var all []byte
	for x := range rune(api.MaxRune + 1) {
		if utf8.ValidRune(x) {
			all = utf8.AppendRune(all, x)
		}
	}
	for kind := 1; kind <= 2; kind++ {
		want, _ := m.makes(kind, all)
		wantMade(t, kind, all, want, true)
	}
	// What is ended one byte too early, or begun one too late.
	for n := 1; n <= 3; n++ {
		for kind := 1; kind <= 2; kind++ {
			want, ok := m.makes(kind, all[:len(all)-n])
			wantMade(t, kind, all[:len(all)-n], want, ok)
			want, ok = m.makes(kind, all[len(all)-n:])
			wantMade(t, kind, all[len(all)-n:], want, ok)
		}
	}
}

// P27.1: nothing else is related.
func TestNothingElse(t *testing.T) {
	for _, c := range []struct {
		kind int
		x, y string
	}{
		{1, "<", "<"}, {1, "<", ""}, {1, "\xc3", "\xc3"}, {1, "\xc3", "\ufffd"}, {1, "a", "aa"}, {2, "\xc3", "\xc3"}, {2, "\xc3", ""}, {2, "\xc3\xbc", "\ufffd\ufffd"},
		{3, "/", "%2f"}, {3, "/", "/"}, {3, "a", "%61"}, {4, "%20", "%20"}, {4, "%2", ""}, {4, "%2530", "0"},
	} {
		if ok, e := run.Relates(machine(t, c.kind), word.Raw([]byte(c.x)), word.Raw([]byte(c.y))); ok || e != api.OK {
			t.Errorf("kind %d, %q to %q: %v, %d", c.kind, c.x, c.y, ok, e)
		}
	}
}

// P27.3: whatever is written, in whatever chunks; P5: little is held, and little is written for each byte that is gone.
func TestChunks(t *testing.T) {
	m := newModel()
	r := random{rand.New(rand.NewSource(273))}
	for kind := 1; kind <= 4; kind++ {
		flat, _ := ship.Table(kind)
		most := table.Most(flat)
		for range 400 {
			b := r.bytes(60)
			want, ok := m.makes(kind, b)
			d, e := ship.Open(kind)
			if e != api.OK || d.Node() != 0 || len(d.Held()) != 0 {
				t.Fatalf("Open(%d): %d", kind, e)
			}
			var out []byte
			rejected := false
			for left := b; len(left) > 0 && !rejected; {
				n := min(r.Intn(5), len(left))
				held := len(d.Held())
				got, e := d.Write(left[:n])
				if rejected = e != api.OK; rejected && e != api.ErrReject {
					t.Fatalf("kind %d, Write: %d", kind, e)
				}
				if !rejected && (len(d.Held()) > 4 || len(got) > most*(held+n-len(d.Held()))) {
					t.Fatalf("kind %d: %q is held, %q was written", kind, d.Held(), got)
				}
				out, left = append(out, got...), left[n:]
			}
			if !rejected {
				got, e := d.Close()
				rejected, out = e == api.ErrReject, append(out, got...)
				if e != api.OK && !rejected || len(got) > most {
					t.Fatalf("kind %d, Close: %q, %d", kind, got, e)
				}
			}
			if rejected == ok || ok && string(out) != want {
				t.Fatalf("kind %d, of %q: %q, %v, not %q, %v", kind, b, out, !rejected, want, ok)
			}
			if _, e := d.Write([]byte("a")); rejected && e != api.ErrReject || !rejected && e != api.ErrState {
				t.Fatalf("kind %d, Write then: %d", kind, e)
			}
		}
	}
}

// P27.3: the document's examples, and drivers that go one beside the other.
func TestOpen(t *testing.T) {
	d, _ := ship.Open(1)
	other, _ := ship.Open(1)
	b, e := d.Write([]byte{0x3c, 0xc3})
	if string(b) != "&lt;" || e != api.OK || string(d.Held()) != "\xc3" {
		t.Errorf("Write: %q, %d, held %q", b, e, d.Held())
	}
	if b, e := other.Write([]byte("\xbc")); len(b) != 0 || e != api.ErrReject {
		t.Errorf("Write to the other one: %q, %d", b, e)
	}
	if b, e := d.Write([]byte{0xbc}); string(b) != "\xc3\xbc" || e != api.OK {
		t.Errorf("Write: %q, %d", b, e)
	}
	if b, e := d.Close(); len(b) != 0 || e != api.OK {
		t.Errorf("Close: %q, %d", b, e)
	}
	for kind, want := range map[int]string{1: "", 2: "\ufffd", 3: "%C3", 4: "\xc3"} {
		d, _ := ship.Open(kind)
		if got, ok := driven(d, []byte{0xc3}); got != want || ok == (kind == 1) {
			t.Errorf("kind %d, C3 alone: %q, %v", kind, got, ok)
		}
	}
}

// P27.4: there and back; strictly or repaired, valid bytes are made the same of; what is repaired is valid, and harmless.
func TestFollows(t *testing.T) {
	r := random{rand.New(rand.NewSource(274))}
	for range 300 {
		b := r.bytes(200)
		there, _ := ship.Clean(3, b)
		if back, e := ship.Clean(4, there); e != api.OK || !bytes.Equal(back, b) {
			t.Fatalf("%q: %q, and back %q, %d", b, there, back, e)
		}
		for i, x := range there {
			if x != '%' && !escape.Unreserved(x) {
				t.Fatalf("%q: %q, byte %d", b, there, i)
			}
		}
		whole, e := ship.Clean(2, b)
		if e != api.OK || !utf8.Valid(whole) || !harmless(string(whole)) {
			t.Fatalf("%q: %q, %d", b, whole, e)
		}
		strict, e := ship.Clean(1, b)
		if valid := utf8.Valid(b); valid != (e == api.OK) || valid && !bytes.Equal(strict, whole) {
			t.Fatalf("%q: strictly %q, %d, repaired %q", b, strict, e, whole)
		}
	}
}

// memory is all that the lists of a value have, their room too, each as a list of the whole of it.
func memory(v reflect.Value) []reflect.Value {
	var out []reflect.Value
	switch v.Kind() {
	case reflect.Struct:
		for i := range v.NumField() {
			out = append(out, memory(v.Field(i))...)
		}
	case reflect.Slice:
		for i := range v.Len() {
			out = append(out, memory(v.Index(i))...)
		}
		if v.Cap() > 0 {
			out = append(out, v.Slice(0, v.Cap()))
		}
	}
	return out
}

// scrawl asks that no two lists of an answer share memory, and empties all of it.
func scrawl(t *testing.T, what string, x any) {
	t.Helper()
	lists := memory(reflect.ValueOf(x))
	ends := func(l reflect.Value) (uintptr, uintptr) {
		return l.Pointer(), l.Pointer() + uintptr(l.Cap())*l.Type().Elem().Size()
	}
	for i, l := range lists {
		first, behind := ends(l)
		for _, other := range lists[i+1:] {
			if f, b := ends(other); f < behind && first < b {
				t.Fatalf("%s: lists share memory", what)
			}
		}
	}
	for _, l := range lists {
		for i := range l.Len() {
			l.Index(i).SetZero()
		}
	}
}

// Rules 4 and 6: what is answered is new memory, and hangs on the arguments alone.
func TestMemory(t *testing.T) {
	const in = "<\xc3\xbca %41%"
	for kind := 1; kind <= 4; kind++ {
		d, _ := ship.Machine(kind)
		x, _ := ship.Table(kind)
		direct, _ := ship.Direct(kind, []byte(in))
		clean, _ := ship.Clean(kind, []byte(in))
		open, _ := ship.Open(kind)
		before := fmt.Sprint(d, x, direct, clean)
		for what, l := range map[string]any{"Machine": d, "Table": x, "Direct": direct, "Clean": clean} {
			scrawl(t, fmt.Sprint(what, " of ", kind), l)
		}
		d, _ = ship.Machine(kind)
		x, _ = ship.Table(kind)
		direct, _ = ship.Direct(kind, []byte(in))
		b, _ := open.Write([]byte(in))
		end, _ := open.Close()
		if after := fmt.Sprint(d, x, direct, append(b, end...)); after != before {
			t.Errorf("kind %d: %s, then %s", kind, strings.TrimSpace(before), strings.TrimSpace(after))
		}
	}
}
