package page_test

import (
	"fmt"
	"math"
	"math/rand"
	"reflect"
	"slices"
	"strings"
	"testing"

	"umlaut/api"
	"umlaut/codec"
	"umlaut/desc"
	"umlaut/escape"
	"umlaut/page"
	"umlaut/term"
)

// text is a description as a text, of which nil and empty lists are one.
func text(d api.Desc) string { return fmt.Sprintf("%+v", d) }

// wantThere asks that a description is printed as the model has it, and read as it was.
func wantThere(t *testing.T, d api.Desc) string {
	t.Helper()
	before := text(d)
	s, e := page.Print(d)
	if want := written(d); e != api.OK || s != want {
		t.Fatalf("Print: %d, %.2000q, not %.2000q", e, s, want)
	}
	got, n, e := page.Parse(s)
	if e != api.OK || n != 0 || text(got) != before || text(d) != before {
		t.Fatalf("Parse(%.2000q): %.2000s, %d, %d", s, text(got), n, e)
	}
	return s
}

// wantFault asks in which line a text has its fault.
func wantFault(t *testing.T, s string, want int) {
	t.Helper()
	d, n, e := page.Parse(s)
	if e != api.ErrText || n != want || text(d) != text(api.Desc{}) {
		t.Errorf("Parse(%.500q): %.500s, %d, %d, not a fault in line %d", s, text(d), n, e, want)
	}
}

// wantLong asks of a text that is too long.
func wantLong(t *testing.T, s string) {
	t.Helper()
	d, n, e := page.Parse(s)
	if e != api.ErrLong || n != 0 || text(d) != text(api.Desc{}) {
		t.Errorf("Parse of %d bytes: %.500s, %d, %d", len(s), text(d), n, e)
	}
}

// P26.1, P26.2: the chapter's example, and what else is known.
func TestExample(t *testing.T) {
	full := api.Desc{In: 2, Out: 1, States: 3, Start: 1,
		Rules: []api.Rule{
			{From: 0, To: 2, Guards: [][]api.Span{{{Lo: 1, Hi: 2}, {Lo: -7, Hi: -4}}, {}, {{Lo: 9, Hi: 0}}}, Eat: 1, Out: []api.Term{
				{Base: 1, Drop: 2, Take: 3, Up: 4, Sum: -5, Parts: []api.Part{{At: 6, Drop: 7, Take: 8, Up: 9}, {At: -1}}}, {},
			}},
			{From: math.MinInt, To: math.MaxInt, Eat: -1},
		},
		Finals: []api.Final{{From: 1, Guards: [][]api.Span{{}}, Out: []api.Term{term.Const('a')}}, {}},
	}
	for want, d := range map[string]api.Desc{
		"umlaut 0 0 0 0\n": {},
		"umlaut 1 1 1 0\nrule 0 0 1 [0..255] -> (0 0 21 0 0; 0 0 21 0)\nfinal 0 ->\n": desc.Same(api.Bytes),
		"umlaut 2 1 1 0\n":               desc.Empty(api.Scalars, api.Bytes),
		"umlaut -1 7 -3 4\nfinal 5 ->\n": {In: -1, Out: 7, States: -3, Start: 4, Finals: []api.Final{{From: 5}}},
		"umlaut 2 1 3 1\n" +
			"rule 0 2 1 [1..2,-7..-4] [] [9..0] -> (1 2 3 4 -5; 6 7 8 9; -1 0 0 0) (0 0 0 0 0)\n" +
			"rule -9223372036854775808 9223372036854775807 -1 ->\n" +
			"final 1 [] -> (0 0 21 0 97)\nfinal 0 ->\n": full,
	} {
		if s := wantThere(t, d); s != want {
			t.Errorf("Print: %q, not %q", s, want)
		}
	}
	for _, d := range []api.Desc{codec.Strict(), codec.Repairer(), codec.Encoder(), escape.Html(), escape.Url(), escape.Unurl()} {
		wantThere(t, d)
	}
}

// P26.1, P26.2, P26.3: any descriptions are printed, and read as they were.
func TestThereAndBack(t *testing.T) {
	r := random{rand.New(rand.NewSource(26))}
	for range 5000 {
		wantThere(t, r.desc())
	}
}

// P26.2: faults, and in which lines.
func TestFaults(t *testing.T) {
	const head = "umlaut 1 1 1 0\n"
	for s, want := range map[string]int{
		// No line, or one that isn't ended.
		"": 1, "\n": 1, "\n\n": 1, "umlaut": 1, "umlaut 1 1 1 0": 1, "u": 1, "x": 1,
		head + "r": 2, head + "rule 0 0 0 ->": 2, head + "final 0 ->": 2, head + "x": 2, head + " ": 2, head + "\x00": 2,
		head + "rule 0 0 0 ->\nfinal 0 ->": 3,
		// The first of several faults.
		"x\ny": 1, head + "x\ny": 2, head + "x\ny\n": 2, "\n" + head: 1, "umlaut 1 1 1 0\r\nfinal 0 ->\n": 1,
		// First lines.
		"umlaut \n": 1, "umlaut 1 1 1\n": 1, "umlaut 1 1 1 0 0\n": 1, "umlaut 1 1 1 0 \n": 1, " umlaut 1 1 1 0\n": 1,
		"umlaut  1 1 1 0\n": 1, "umlaut 1  1 1 0\n": 1, "umlaut 1\t1 1 0\n": 1, "Umlaut 1 1 1 0\n": 1, "umlaut1 1 1 0\n": 1,
		"rule 0 0 0 ->\n": 1, "final 0 ->\n": 1, "umlaut 1 1 1 a\n": 1, "umlaut 1 1 1 0\xff\n": 1, "\ufeffumlaut 1 1 1 0\n": 1,
		// The order of the lines.
		head + head: 2, head + "\n": 2, head + "final 0 ->\n\n": 3, head + "final 0 ->\nrule 0 0 0 ->\n": 3,
		head + "rule 0 0 0 ->\nfinal 0 ->\nfinal 0 ->\nrule 0 0 0 ->\nx\n": 5, head + "final 0 ->\n" + head: 3,
		// Rules and finals.
		head + "rule 0 0 ->\n": 2, head + "rule 0 0 0\n": 2, head + "rule 0 0 0 -> \n": 2, head + "rule 0 0 0  ->\n": 2, head + "rule 0 0 0->\n": 2,
		head + "rule 0 0 0 0 ->\n": 2, head + "rule 0 0 0 - >\n": 2, head + "rule 0 0 0 -> ->\n": 2, head + "rules 0 0 0 ->\n": 2, head + "rule  0 0 0 ->\n": 2,
		head + "final ->\n": 2, head + "final  ->\n": 2, head + "final 0\n": 2, head + "final 0 0 ->\n": 2, head + "finale 0 ->\n": 2, head + "final 0 -> x\n": 2,
		// Guards.
		head + "final 0 [ ->\n": 2, head + "final 0 [ ] ->\n": 2, head + "final 0[] ->\n": 2, head + "final 0 []->\n": 2, head + "final 0 [][] ->\n": 2, head + "final 0  [] ->\n": 2,
		head + "final 0 [1] ->\n": 2, head + "final 0 [1..] ->\n": 2, head + "final 0 [..1] ->\n": 2, head + "final 0 [1.2] ->\n": 2, head + "final 0 [1...2] ->\n": 2, head + "final 0 [1 .. 2] ->\n": 2,
		head + "final 0 [1..2,] ->\n": 2, head + "final 0 [,1..2] ->\n": 2, head + "final 0 [1..2, 3..4] ->\n": 2, head + "final 0 [1..2 3..4] ->\n": 2, head + "final 0 [1..2,,3..4] ->\n": 2,
		head + "final 0 [1..2]] ->\n": 2, head + "final 0 -> [1..2]\n": 2, head + "final 0 [1..2\n] ->\n": 2,
		// Terms.
		head + "final 0 -> ()\n": 2, head + "final 0 -> (0 0 0 0)\n": 2, head + "final 0 -> (0 0 0 0 0 0)\n": 2, head + "final 0 -> (0 0 0 0 0\n": 2, head + "final 0 ->(0 0 0 0 0)\n": 2,
		head + "final 0 -> ( 0 0 0 0 0)\n": 2, head + "final 0 -> (0 0 0 0 0 )\n": 2, head + "final 0 -> (0 0 0 0 0))\n": 2, head + "final 0 -> (0 0 0 0 0)(0 0 0 0 0)\n": 2,
		head + "final 0 -> (0 0 0 0 0;)\n": 2, head + "final 0 -> (0 0 0 0 0; )\n": 2, head + "final 0 -> (0 0 0 0 0; 0 0 0)\n": 2, head + "final 0 -> (0 0 0 0 0; 0 0 0 0 0)\n": 2,
		head + "final 0 -> (0 0 0 0 0;0 0 0 0)\n": 2, head + "final 0 -> (0 0 0 0 0 ; 0 0 0 0)\n": 2, head + "final 0 -> (; 0 0 0 0)\n": 2, head + "final 0 -> (0 0 0 0 0; 0 0 0 0;)\n": 2,
		head + "final 0 (0 0 0 0 0) ->\n": 2, head + "final 0 -> (0 0 0 0 0,0)\n": 2,
	} {
		wantFault(t, s, want)
	}
}

// P26.2: numbers, wherever they stand.
func TestNumbers(t *testing.T) {
	const form = "umlaut # # # #\nrule # # # [#..#] -> (# # # # #; # # # #)\nfinal # [] [1..1,#..#] -> (1 1 1 1 1) (# # # # #; 1 1 1 1; # # # #)\n"
	pieces := strings.Split(form, "#")
	for i := 1; i < len(pieces); i++ {
		ahead, behind := strings.Join(pieces[:i], "3"), strings.Join(pieces[i:], "-20")
		line := 1 + strings.Count(ahead, "\n")
		for _, s := range []string{"0", "7", "-1", "10", "-10", "9223372036854775807", "-9223372036854775808", "1000000000000000000"} {
			d, n, e := page.Parse(ahead + s + behind)
			if back, f := page.Print(d); e != api.OK || n != 0 || f != api.OK || back != ahead+s+behind {
				t.Errorf("Parse of %s at %d: %d, %d, %q", s, i, n, e, back)
			}
		}
		for _, s := range []string{
			"", "-", "--1", "-0", "00", "01", "-01", "+1", "+0", "1_0", "0x1", "1e1", "1.0", " 1", "1 ", "- 1", "1-", "٣", "９", "\x00", "a",
			"9223372036854775808", "-9223372036854775809", "18446744073709551616", "18446744073709551617", "99999999999999999999999999", strings.Repeat("1", 9000),
		} {
			wantFault(t, ahead+s+behind, line)
		}
	}
}

// P26.2: texts that are changed a little are read as the model has it; P26.3: what is read is printed as it was.
func TestChanged(t *testing.T) {
	f := newForms()
	r := random{rand.New(rand.NewSource(261))}
	ask := func(s string) {
		t.Helper()
		d, n, e := page.Parse(s)
		if want := f.fault(s); want != n || (e == api.OK) != (want == 0) || e != api.OK && e != api.ErrText {
			t.Fatalf("Parse(%q): %d, %d, not %d", s, n, e, want)
		}
		if e != api.OK {
			if text(d) != text(api.Desc{}) {
				t.Fatalf("Parse(%q): %s beside an error", s, text(d))
			}
			return
		}
		if back, e := page.Print(d); e != api.OK || back != s {
			t.Fatalf("Print of what %q is: %q, %d", s, back, e)
		}
	}
	const signs = "\n\n -->[](),;..0123456789rulefinatm\x00\xff"
	for range 25 {
		s := written(r.desc())
		ask(s)
		for i := range s {
			ask(s[:i])
			ask(s[:i] + s[i+1:])
			x := signs[r.Intn(len(signs))]
			ask(s[:i] + string(rune(x)) + s[i:])
			ask(s[:i] + string([]byte{x}) + s[i+1:])
		}
		// Whole lines, in another order.
		lines := strings.SplitAfter(s, "\n")
		r.Shuffle(len(lines), func(i, j int) { lines[i], lines[j] = lines[j], lines[i] })
		ask(strings.Join(lines, ""))
		ask(s + s)
	}
}

// repeated is a description that has so many like things, of some kind: rules, finals, guards, spans, terms, parts.
func repeated(kind, n int) api.Desc {
	d := api.Desc{Start: 1, Rules: make([]api.Rule, 1), Finals: make([]api.Final, 1)}
	r := &d.Rules[0]
	switch kind {
	case 0:
		d.Rules = make([]api.Rule, n)
	case 1:
		d.Finals = make([]api.Final, n)
	case 2:
		r.Guards = make([][]api.Span, n)
	case 3:
		r.Guards = [][]api.Span{make([]api.Span, n)}
	case 4:
		r.Out = make([]api.Term, n)
	case 5:
		r.Out = []api.Term{{Parts: make([]api.Part, n)}}
	}
	return d
}

// great is a description of such things whose text has so many bytes: what is left of them are digits of Start.
func great(kind, n int) api.Desc {
	one := len(written(repeated(kind, 1)))
	each := len(written(repeated(kind, 2))) - one
	d := repeated(kind, 1+(n-one)/each)
	for range (n - one) % each {
		d.Start *= 10
	}
	return d
}

// P26.1, P26.2: as many bytes as may be, and one more.
func TestLong(t *testing.T) {
	for kind := range 6 {
		d := great(kind, api.MaxText)
		s := wantThere(t, d)
		if len(s) != api.MaxText {
			t.Fatalf("kind %d: %d bytes", kind, len(s))
		}
		wantFault(t, s[:len(s)-1], strings.Count(s, "\n"))
		wantFault(t, s[:len(s)-1]+" ", strings.Count(s, "\n"))
		wantLong(t, s+"\n")
		wantLong(t, s+"x")
		d.Start *= 10
		if s, e := page.Print(d); e != api.ErrLong || s != "" {
			t.Errorf("Print of a byte more: %d, %.100q", e, s)
		}
		wantLong(t, written(d))
	}
	wantFault(t, strings.Repeat("\n", api.MaxText), 1)
	wantFault(t, strings.Repeat("1", api.MaxText), 1)
	wantFault(t, "umlaut "+strings.Repeat("1", api.MaxText-7), 1)
	wantFault(t, "umlaut 1 1 1 1\n"+strings.Repeat("final 0 ->\n", 5900)+"final 0", 5902)
	wantLong(t, strings.Repeat("\n", api.MaxText+1))
	wantLong(t, strings.Repeat("\xff", 1<<24))
}

// P26.1: of what is very great no more is gone through than a text may have: here are more things than could ever be written, as lists stand in many places.
func TestVeryGreat(t *testing.T) {
	const n = 1 << 16
	guards := slices.Repeat([][]api.Span{make([]api.Span, n)}, n)
	terms := slices.Repeat([]api.Term{{Parts: make([]api.Part, n)}}, n)
	for i, d := range []api.Desc{
		{Rules: slices.Repeat([]api.Rule{{Guards: guards}}, n)},
		{Rules: slices.Repeat([]api.Rule{{Out: terms}}, n)},
		{Finals: slices.Repeat([]api.Final{{Guards: guards}}, n)},
		{Finals: slices.Repeat([]api.Final{{Out: terms}}, n)},
	} {
		if s, e := page.Print(d); e != api.ErrLong || s != "" {
			t.Errorf("%d: Print: %d, %.100q", i, e, s)
		}
	}
}

// memory is all that the lists of a value have, their room too, each as a list of the whole of it.
func memory(v reflect.Value) []reflect.Value {
	var out []reflect.Value
	switch v.Kind() {
	case reflect.Struct:
		for i := range v.NumField() {
			out = append(out, memory(v.Field(i))...)
		}
	case reflect.Slice:
		for i := range v.Len() {
			out = append(out, memory(v.Index(i))...)
		}
		if v.Cap() > 0 {
			out = append(out, v.Slice(0, v.Cap()))
		}
	}
	return out
}

// Rule 4: what is handed in isn't changed, its room neither; what is answered is new memory, of which no two lists share any.
func TestMemory(t *testing.T) {
	r := random{rand.New(rand.NewSource(262))}
	for range 300 {
		d := r.desc()
		var before []string
		for _, l := range memory(reflect.ValueOf(d)) {
			before = append(before, fmt.Sprint(l))
		}
		s := wantThere(t, d)
		for i, l := range memory(reflect.ValueOf(d)) {
			if got := fmt.Sprint(l); got != before[i] {
				t.Fatalf("Print changed %s to %s", before[i], got)
			}
		}
		got, _, _ := page.Parse(s)
		lists := memory(reflect.ValueOf(got))
		for i, l := range lists {
			first, behind := l.Pointer(), l.Pointer()+uintptr(l.Cap())*l.Type().Elem().Size()
			for _, other := range lists[i+1:] {
				if p := other.Pointer(); first <= p && p < behind || p <= first && first < p+uintptr(other.Cap())*other.Type().Elem().Size() {
					t.Fatalf("Parse(%q): lists share memory", s)
				}
			}
		}
		for _, l := range lists {
			for i := range l.Len() {
				l.Index(i).SetZero()
			}
		}
		wantThere(t, d)
	}
}
