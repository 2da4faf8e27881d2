package bench_test

import (
	"bytes"
	"fmt"
	"math/rand"
	"slices"
	"strings"
	"testing"

	"umlaut/api"
	"umlaut/bench"
	"umlaut/desc"
	"umlaut/node"
	"umlaut/recipe"
	"umlaut/ship"
)

// wantAll asks a bench for the answers of lines: line, answer, line, answer, and so on.
func wantAll(t *testing.T, b *bench.Bench, l ...string) {
	t.Helper()
	for i := 0; i < len(l); i += 2 {
		if got := b.Do(l[i]); got != l[i+1] {
			t.Errorf("%.100q: %.100q, not %.100q", l[i], got, l[i+1])
		}
	}
}

// P28.1: the chapter's examples, and the document's.
func TestExamples(t *testing.T) {
	wantAll(t, bench.New(),
		"let a {x>y}|z", "ok", "run a 78", "79", "let b (a", "fault 2", "clean 1 3c", "266c743b",
		"run a 7a", "7a", "run a 71", "none", "run b", "unknown", "names", "a",
		"let c a|(bc)*", "ok", "run c 61 62 63", "none", "run c 62 63 62 63", "62 63 62 63",
		"let d {&>&amp;}|[^&]", "ok", "run d 26", "26 61 6d 70 3b", "run d fc", "fc", "run d 61 61", "none",
		"clean 1 3cc3bc", "266c743bc3bc", "open 1", "ok", "write 3cc3", "ok", "write bc", "ok", "close", "266c743bc3bc",
		"clean 1 c3", "reject", "clean 2 c3", "efbfbd", "clean 3 6120622f", "6125323062253246", "clean 4 6125323062253246", "6120622f",
		"let e a*{a>x}|a*{a>y}", "ok", "let f {a>x}{b>yz}", "ok", "let g {a>xy}{b>z}", "ok",
		"equal e e", "left", "equal f e", "right", "equal f g", "yes", "equal f a", "no", "names", "a c d e f g")
}

// P28.1: an empty line; nil; and of a bench that wasn't made that it does no harm.
func TestNothingSaid(t *testing.T) {
	var none *bench.Bench
	for _, line := range []string{"", "names", "let a b", "open 1", "close", "what"} {
		if got := none.Do(line); got != "" {
			t.Errorf("of nil, %q: %q", line, got)
		}
	}
	wantAll(t, bench.New(), "", "", "names", "none", "", "")
	var zero bench.Bench
	for _, line := range []string{"names", "close", "write -", "run a", "equal a a", "let a b", "open 1", "write 61", "close"} {
		zero.Do(line)
	}
}

// P28.1: any other line; it changes nothing.
func TestWhat(t *testing.T) {
	b := bench.New()
	wantAll(t, b, "let a {x>y}|z", "ok", "open 3", "ok", "write 61", "ok")
	for _, line := range []string{
		" ", "  ", "what", "Let a b", "LET a b", "lets a b", "le a b", " let a b", "let", "let ", "let a", "let  a b", "let a\tb", "let A b", "let a1 b", "let 1 b", "let - b", "let ä b", "let a\xff b", "let abcdefghijklmnopq b", "let  b",
		"join", "join ", "join a", "join a a", "join a a ", "join a  a", "join a a a ", "join a a a a", " join a a a", "join  a a a", "join a a a1", "join a A a", "join b a -", "join abcdefghijklmnopq a a", "join b abcdefghijklmnopq a",
		"chain", "chain a a", "chain a a a a", "chain a a a ", "chain a a 1", "chain a 1 a", "chain 1 a a", "chain b c abcdefghijklmnopq",
		"run", "run ", "run 78", "run a ", "run a  78", "run a 78 ", "run a -", "run a g", "run a 7g", "run a 0000078", "run a d800", "run a dfff", "run a DBCD", "run a 110000", "run a ffffff", "run a 00d800", "run a 1F6000000", "run a 78,79", "run a 78; 79", "run a +78", "run a 0x78", "run a 7_8", "run a ü", "run a 78 d800", "run a 78 x 79", "run a 100000061", "run a " + strings.Repeat("0", 40), "run abcdefghijklmnopq", "run a\t78", "run A 78", "run b zz",
		"equal", "equal a", "equal a ", "equal a a ", "equal a a a", "equal a 1", "equal 1 a", "equal  a a", "equal b ß",
		"clean", "clean 1", "clean 1 ", "clean 0 -", "clean 5 -", "clean 11 -", "clean 01 -", "clean +1 -", "clean -1 -", "clean a -", "clean  -", "clean 12 61", "clean 1 6", "clean 1 616", "clean 1 6g", "clean 1 g6", "clean 1 --", "clean 1 -61", "clean 1 61-", "clean 1 61 61", "clean 1 61 ", "clean 1 - ", "clean 1  61", "clean 1 0x61", "clean 1 6\u00e4", "clean 1 \xff\xff", "clean 1 ü", "clean 1 üü", "clean ", "clean -", "clean 61",
		"open", "open ", "open 0", "open 5", "open 1 ", "open 1 1", "open  1", "open one", "open -", "open 34", "open 1234", "open 123",
		"write", "write ", "write 6", "write 6 1", "write 61 61", "write  61", "write 61 ", "write - -", "write +1", "write 6 ", "write zz",
		"close ", "close 1", "close close", " close", "closed", "clos", "names ", "names a", " names", "name", "nil", "ok", "\x00", "names\r", "close\n", "names\n", "run a 78\n", "run a 78\r", "open 1\n", "# names",
	} {
		wantAll(t, b, line, "what")
	}
	wantAll(t, b, "names", "a", "run a 78", "79", "write 20", "ok", "close", "61253230")
}

// P28.1: names.
func TestNames(t *testing.T) {
	b := bench.New()
	wantAll(t, b, "names", "none", "let z a", "ok", "let abcdefghijklmnop a", "ok", "let let a", "ok", "let none a", "ok", "let a a", "ok", "let ab a", "ok", "let b a", "ok", "let z b", "ok",
		"names", "a ab abcdefghijklmnop b let none z", "run let 61", "61", "run abcdefghijklmnop 61", "61", "run z 61", "none", "run z 62", "62")
}

// P28.1: what is no recipe, or can't be one's description, names nothing, and leaves what is named.
func TestLet(t *testing.T) {
	b := bench.New()
	class := func(n int, x string) string { return "[" + strings.Repeat(x, n-2) + "]" }
	wantAll(t, b,
		"let a x", "ok",
		"let a (", "fault 1", "let a )", "fault 0", "let a b)", "fault 1", "let a *", "fault 0", "let a \\u{d800}", "fault 7", "let a {", "fault 1", "let a ü(", "fault 2", "let a  (", "fault 2",
		"let a \t", "fault 0", "let a b\r", "fault 1", "let a b\nc", "fault 1", "let a "+strings.Repeat("(", 64)+"(", "fault 64",
		"let a (b*)*", "wrong", "let a ([a-c]*)*", "wrong", "let a ()*", "wrong", "let a [a]@9999999", "wrong", "let a [a]@-98", "wrong", "let a .@1", "wrong", "let a a"+strings.Repeat("*", 2), "wrong",
		"let a "+strings.Repeat("a", 5000), "long", "let a "+class(api.MaxText+1, "b"), "long", "let a "+class(api.MaxText+1, "ü"), "long", "let a "+strings.Repeat("(", api.MaxText+1), "long",
		"run a 78", "78", "names", "a", "let b )", "fault 0", "let b (b*)*", "wrong", "let b "+strings.Repeat("a", 5000), "long", "run b", "unknown", "names", "a",
		"let a "+class(api.MaxText, "b"), "ok", "run a 62", "62", "run a 78", "none",
		"let a "+class(api.MaxText, "ü"), "ok", "run a fc", "fc",
		// All behind the blank is the recipe.
		"let a ", "ok", "run a", "-", "run a 20", "none", "let a  ", "ok", "run a 20", "20", "let a b c", "ok", "run a 62 20 63", "62 20 63", "let a  b ", "ok", "run a 20 62 20", "20 62 20",
		"let a {a b> }", "ok", "run a 61 20 62", "20", "let a []", "ok", "run a", "none", "let a \xff", "ok", "run a fffd", "fffd", "let a ü", "ok", "run a fc", "fc", "let a let a b", "ok", "run a 6c 65 74 20 61 20 62", "6c 65 74 20 61 20 62")
}

// P28.1: at most 32 names; of several answers the first.
func TestFull(t *testing.T) {
	b := bench.New()
	var all []string
	for i := range 31 {
		n := "n" + strings.Repeat("x", i%8) + string(rune('a'+i/8))
		all = append(all, n)
		wantAll(t, b, "let "+n+" a", "ok")
	}
	// Enough states for that two of them can't be joined.
	wantAll(t, b, "let great "+strings.Repeat("a", 700), "ok")
	all = append(all, "great")
	slices.Sort(all)
	names := strings.Join(all, " ")
	wantAll(t, b,
		"names", names,
		"let more a", "full", "join more na na", "full", "chain more na na", "full", "names", names, "run more", "unknown",
		"let more (", "fault 1", "let more (a*)*", "wrong", "let more "+strings.Repeat("a", 5000), "long", "let more [a]]", "fault 3",
		"join more more na", "unknown", "join more na more", "unknown", "join more great great", "long", "chain more more na", "unknown", "chain more na more", "unknown", "let More a", "what", "join more na 1", "what",
		"let na b", "ok", "join na nb na", "ok", "run na 61", "61", "run na 62", "62", "chain na na nb", "ok", "run na 61", "61", "run na 62", "none", "let great a", "ok", "join great great great", "ok",
		"names", names)
}

// compiled is a recipe's description.
func compiled(t *testing.T, s string) api.Desc {
	t.Helper()
	n, _, e := recipe.Parse(s)
	if e != api.OK {
		t.Fatalf("%q: %d", s, e)
	}
	d, e := node.Compile(n)
	if e != api.OK {
		t.Fatalf("%q: %d", s, e)
	}
	return d
}

// P28.1: join; long where desc.Join says so.
func TestJoin(t *testing.T) {
	b := bench.New()
	wantAll(t, b, "let a [a-c]", "ok", "let b {a>xy}|{b>}", "ok", "join c a b", "ok", "run c 61", "61; 78 79", "run c 62", "-; 62", "run c 63", "63", "run c", "none",
		"join c a d", "unknown", "join c d a", "unknown", "join d d d", "unknown", "run d", "unknown", "run c 61", "61; 78 79",
		// A name may stand on both sides; what was named stays as it was for what was made of it.
		"join a a b", "ok", "run a 61", "61; 78 79", "let b q", "ok", "run a 61", "61; 78 79", "run a 71", "none", "join b a b", "ok", "run b 71", "71", "run b 62", "-; 62")
	for _, text := range []string{"a", "[a-z]*", "(a|b)*c", "", strings.Repeat("a", 100), strings.Repeat("(a|{b>c})", 400), "(" + strings.Repeat("a|", 1300) + "a)"} {
		d, b := compiled(t, text), bench.New()
		wantAll(t, b, "let a "+text, "ok")
		for {
			both, e := desc.Join(d, d)
			if e != api.OK {
				wantAll(t, b, "join b a a", "long", "join a a a", "long", "run b", "unknown")
				break
			}
			wantAll(t, b, "join a a a", "ok")
			d = both
		}
		wantAll(t, b, "names", "a")
	}
}

// P28.1: chain.
func TestChain(t *testing.T) {
	wantAll(t, bench.New(),
		"let a ([a-y]@1)*", "ok", "let b ({b>xx}|[^b])*", "ok", "chain c a b", "ok", "run c 61 62 63", "78 78 63 64", "chain c b a", "ok", "run c 61 62 63", "62 79 79 64", "run c 7a", "none",
		"chain c c d", "unknown", "chain c d c", "unknown", "chain d d d", "unknown", "run c 61", "62",
		// The same name on both sides, and as what is named.
		"chain a a a", "ok", "run a 61", "63", "run a 78", "7a", "run a 79", "none", "chain a a a", "ok", "run a 61", "65",
		"let a ({a>b}|{a>c})*", "ok", "let b ({b>x}|{b>y}|c)*", "ok", "chain c a b", "ok", "run c 61", "63; 78; 79", "run c 61 61 61 61", "many", "run c", "-", "run c 62", "none",
		// What nothing is written of, and what nothing is read for.
		"let a [a-z]!*", "ok", "let b {>x}", "ok", "chain c a b", "ok", "run c", "78", "run c 61 62", "78", "chain c b a", "ok", "run c", "-", "run c 61", "none",
		"let a {>ab}", "ok", "let b {ab>c}", "ok", "chain c a b", "ok", "run c", "63", "let b ab", "ok", "chain c a b", "ok", "run c", "61 62", "let b a", "ok", "chain c a b", "ok", "run c", "none", "let b abc", "ok", "chain c a b", "ok", "run c", "none",
		"let a []", "ok", "chain c a b", "ok", "run c", "none", "chain c b a", "ok", "run c 61 62 63", "none")
	// Of two that have very many states between them only those count that are come to.
	b := bench.New()
	wantAll(t, b, "let a "+strings.Repeat("(a|{b>a})", 31), "ok", "chain b a a", "ok")
	for range 5 {
		wantAll(t, b, "chain b b a", "ok", "run b"+strings.Repeat(" 61 62", 15)+" 61", strings.TrimSpace(strings.Repeat(" 61", 31)), "run b"+strings.Repeat(" 61", 30), "none", "equal a b", "yes", "chain b a b", "ok", "equal b a", "yes")
	}
	// It ends, where there is too much of it: nothing is named then.
	wantAll(t, b, "let a "+strings.Repeat("a*", 30), "ok", "let c ", "ok")
	if got := b.Do("chain c a a"); got == "long" {
		wantAll(t, b, "run c 61", "none", "run c", "-")
	} else {
		wantAll(t, b, "run c 61", "61", "run c", "-")
	}
	wantAll(t, b, "let a "+strings.Repeat("a", 40), "ok", "let b "+strings.Repeat("(a|b|.)", 40), "ok")
	for range 3 {
		if got := b.Do("chain c b a"); got != "ok" && got != "long" {
			t.Errorf("chain: %q", got)
		}
	}
}

// small is recipes of a size of at most 4, no set of which has more than 4 spans.
func small() []string {
	atoms := []string{"", ".", "[a-c]", "[ac-dx\U00010000-\U0010fffe]@1", "[b-df-h\U0010f000-\U0010ffff]@-1", "[^b]", "[a-b]!", "[aceg]!", "[\U0010fff0-\U0010ffff]@-1114000", "[\\u{0}-\\u{ff}]@1113856", "{>}", "[]", "a", "{a>b}", "{a>}", "{>a}", "{ab>}", "{>ab}", "{aba>}", "{>aba}", "{ab>a}", "{a>ab}"}
	var l []string
	for _, x := range atoms {
		l = append(l, x, "("+x+")*")
		for _, y := range atoms {
			l = append(l, x+y, x+"|"+y, "("+x+y+")*", "("+x+"|"+y+")*", x+"("+y+")*", "("+x+")*"+y, x+"|("+y+")*")
			for _, z := range atoms {
				l = append(l, x+y+z, x+"|"+y+"|"+z)
			}
		}
	}
	var out []string
	come := map[string]int{}
	for _, s := range l {
		n, _, e := recipe.Parse(s)
		if e == api.OK && node.Right(n) && node.Size(n) <= 4 && fewSpans(n) && come[fmt.Sprint(n)] == 0 {
			come[fmt.Sprint(n)] = 1
			out = append(out, s)
		}
	}
	return out
}

// P28.1: of small nodes a chain isn't long, and it relates what it has to.
func TestSmallChains(t *testing.T) {
	l := small()
	r := chance{rand.New(rand.NewSource(281))}
	words := append(short("abc", 2), "aba", "x", "\U00010000", "\U0010ffff", "\U0010ffff\U0010ffff", "\x00a")
	for range 6000 {
		first, second := r.of(l...), r.of(l...)
		b, m := bench.New(), newModel()
		lines := []string{"let a " + first, "let b " + second, "chain c a b"}
		for _, w := range words {
			lines = append(lines, "run c"+strings.TrimSuffix(" "+strings.ReplaceAll(told(w), "-", ""), " "))
		}
		for _, line := range lines {
			got := b.Do(line)
			if want, ok := m.wants(line, got); !ok {
				t.Fatalf("%q, %q, %q: %q, not %q", first, second, line, got, want)
			}
		}
	}
}

// P28.1: run: how symbols are read and told, and what comes first.
func TestRunLine(t *testing.T) {
	b := bench.New()
	wantAll(t, b,
		"let a .*", "ok", "run a", "-", "run a 0", "0", "run a 000000", "0", "run a 00000a A", "a a", "run a 10ffff 10FFFF", "10ffff 10ffff", "run a d7ff e000 D7FF E000", "d7ff e000 d7ff e000", "run a abcdef", "what", "run a 0abcde", "abcde", "run a fF", "ff", "run a 61 61", "61 61",
		"run a"+strings.Repeat(" 61", api.MaxWord), strings.TrimSpace(strings.Repeat(" 61", api.MaxWord)), "run a"+strings.Repeat(" 61", api.MaxWord+1), "long",
		"run b"+strings.Repeat(" 61", api.MaxWord+1), "unknown", "run a"+strings.Repeat(" 61", api.MaxWord+1)+" g", "what", "run b g", "what", "run b 61", "unknown",
		"let b {a>}|{a>b}|{a>ba}|{a>ab}|{a>\\u{10ffff}}|{a>b}", "ok", "run b 61", "-; 61 62; 62; 62 61; 10ffff", "run b", "none", "run b 62", "none",
		// 2 to the power 6 is told, 2 to the power 7 isn't.
		"let c (a|{a>b})*", "ok", "run c 61 61", "61 61; 61 62; 62 61; 62 62", "run c"+strings.Repeat(" 61", 7), "many", "run c"+strings.Repeat(" 61", 8), "many", "run c"+strings.Repeat(" 61", 1024), "many", "run c"+strings.Repeat(" 61", 1025), "long", "run c"+strings.Repeat(" 61", 8)+" 62", "none")
	if got := b.Do("run c" + strings.Repeat(" 61", 6)); strings.Count(got, "; ") != 63 || !strings.HasPrefix(got, "61 61 61 61 61 61; 61 61 61 61 61 62; ") {
		t.Errorf("64 outputs: %q", got)
	}
	row := func(n int) string {
		var l []string
		for i := range n {
			l = append(l, fmt.Sprintf("{a>\\u{%x}}", 0x61+i))
		}
		return strings.Join(l, "|")
	}
	wantAll(t, b, "let c "+row(65), "ok", "run c 61", "many", "let c "+row(64)+"|{a>a}", "ok")
	if got := b.Do("run c 61"); strings.Count(got, "; ") != 63 {
		t.Errorf("64 outputs: %q", got)
	}
}

// P28.1: equal.
func TestEqual(t *testing.T) {
	b := bench.New()
	wantAll(t, b,
		"let a (a|b)*", "ok", "let b [a-b]*", "ok", "let c [a-b]*|a", "ok", "let d a|{a>b}", "ok", "let e {b>a}*", "ok", "let f []", "ok",
		"equal a b", "yes", "equal a c", "yes", "equal c a", "yes", "equal a d", "right", "equal d a", "left", "equal d d", "left", "equal a e", "no", "equal e a", "no", "equal a f", "no", "equal f f", "yes", "equal d f", "left", "equal f d", "right",
		"equal a g", "unknown", "equal g a", "unknown", "equal g g", "unknown",
		"join g a b", "ok", "equal g a", "yes", "join g a e", "ok", "equal g a", "left", "equal a g", "right", "chain g e e", "ok", "equal g e", "no", "chain g a b", "ok", "equal g a", "yes", "chain g e a", "ok", "equal g e", "yes",
		"let a [^a]*", "ok", "let b .*", "ok", "equal a b", "no",
		// Very many symbols, and so many states that a small budget would not do.
		"let a "+strings.Repeat("({a>bbbbbbbb}|b)", 1000), "ok", "let b "+strings.Repeat("(b|{a>bbbbbbbb})", 1000), "ok", "equal a b", "yes", "let b "+strings.Repeat("(b|{a>bbbbbbbb})", 999)+"b", "ok", "equal a b", "no")
	// It ends, whether it can be told or not.
	wantAll(t, b, "let a [ab]*a"+strings.Repeat("[ab]", 60), "ok", "let b (a|b)*a"+strings.Repeat("(b|a)", 60), "ok", "let c "+strings.Repeat("a*", 400), "ok")
	if got := b.Do("equal a b"); got != "yes" && got != "long" {
		t.Errorf("equal: %q", got)
	}
	if got := b.Do("equal c c"); got != "yes" && got != "long" {
		t.Errorf("equal: %q", got)
	}
}

// P28.1: clean.
func TestClean(t *testing.T) {
	wantAll(t, bench.New(),
		"clean 1 -", "-", "clean 2 -", "-", "clean 3 -", "-", "clean 4 -", "-", "clean 1 3C", "266c743b", "clean 1 3c3E", "266c743b2667743b", "clean 1 ff", "reject", "clean 1 3cff", "reject", "clean 2 ff", "efbfbd", "clean 2 3cff3c", "266c743befbfbd266c743b",
		"clean 3 00", "253030", "clean 3 fFFf", "254646254646", "clean 4 25", "25", "clean 4 2541", "2541", "clean 4 253431", "41", "clean 4 254434", "d4", "clean 4 00ff0a", "00ff0a")
	r := rand.New(rand.NewSource(282))
	b := bench.New()
	for range 300 {
		in := make([]byte, r.Intn(12))
		for i := range in {
			in[i] = "<&%4aF\xc3\xbc\xe2\x82\xac\xff\x00"[r.Intn(13)]
		}
		kind := 1 + r.Intn(4)
		text := fmt.Sprintf("%x", in)
		if r.Intn(2) == 0 {
			text = strings.ToUpper(text)
		}
		if text == "" {
			text = "-"
		}
		wantAll(t, b, fmt.Sprint("clean ", kind, " ", text), made(kind, in))
	}
	in := bytes.Repeat([]byte("<ü>"), 20000)
	want, _ := ship.Direct(1, in)
	wantAll(t, b, fmt.Sprintf("clean 1 %x", in), fmt.Sprintf("%x", want))
}

// P28.1: the driver.
func TestDriver(t *testing.T) {
	wantAll(t, bench.New(),
		"write -", "closed", "write 61", "closed", "close", "closed", "open 3", "ok", "write 20", "ok", "write 61", "ok", "close", "25323061", "close", "closed", "write 61", "closed",
		"open 1", "ok", "close", "-", "close", "closed", "open 2", "ok", "write -", "ok", "close", "-",
		// What is held is told at the end.
		"open 1", "ok", "write c3", "ok", "close", "reject", "close", "closed", "open 2", "ok", "write 3cc3", "ok", "close", "266c743befbfbd", "open 4", "ok", "write 25", "ok", "write 34", "ok", "write 31", "ok", "write 2534", "ok", "close", "412534",
		// It rejects, for good; that is told as it is closed.
		"open 1", "ok", "write 61", "ok", "write ff", "ok", "write 61", "ok", "write -", "ok", "close", "reject", "close", "closed", "write 61", "closed",
		// Another one takes its place.
		"open 1", "ok", "write 61ff", "ok", "open 3", "ok", "write 62", "ok", "close", "62", "open 3", "ok", "write 61", "ok", "open 3", "ok", "close", "-", "close", "closed",
		// What asks, and what names, leaves it open.
		"open 3", "ok", "write 2f", "ok", "names", "none", "clean 1 ff", "reject", "let a b", "ok", "run a", "none", "what", "what", "", "", "open 5", "what", "write g", "what", "write 2F", "ok", "close", "253246253246")
	one, other := bench.New(), bench.New()
	wantAll(t, one, "open 1", "ok", "let a x", "ok", "write 61", "ok")
	wantAll(t, other, "write 61", "closed", "run a 78", "unknown", "open 2", "ok", "write ff", "ok")
	wantAll(t, one, "close", "61")
	wantAll(t, other, "close", "efbfbd")
}

// P28.1: any lines.
func TestLines(t *testing.T) {
	r := chance{rand.New(rand.NewSource(283))}
	for range 1500 {
		b, m := bench.New(), newModel()
		var lines []string
		for range 40 {
			line := r.line()
			lines = append(lines, line)
			got := b.Do(line)
			if want, ok := m.wants(line, got); !ok {
				t.Fatalf("%q: %q, not %q", lines, got, want)
			}
		}
	}
}

// wantRun asks for the answers of a script.
func wantRun(t *testing.T, script, want string) {
	t.Helper()
	if got, e := bench.Run(script); got != want || e != api.OK {
		t.Errorf("%.60q: %.60q, %d, not %.60q", script, got, e, want)
	}
}

// P28.2: which lines a script has, and how many at most.
func TestScript(t *testing.T) {
	for script, want := range map[string]string{
		"": "", "\n": "\n", "\n\n": "\n\n", "names": "none\n", "names\n": "none\n", "\nnames": "\nnone\n", "names\n\n": "none\n\n", "names\r\n": "what\n", "names\n ": "none\nwhat\n", "names\x00": "what\n",
		"let a {x>y}|z\nrun a 78\nrun a 7a\nrun a 71\n": "ok\n79\n7a\nnone\n", "let b (a\nrun b\nnames\n": "fault 2\nunknown\nnone\n", "let a \nrun a": "ok\n-\n", "let a\nnames": "what\nnone\n",
		"let a [a-c]\nlet b {a>xy}|{b>}\njoin c a b\nrun c 61\nrun c 62\nequal a a\nnames": "ok\nok\nok\n61; 78 79\n-; 62\nyes\na b c\n", "write -\nopen 3\nwrite 20\nwrite 61\nclose\nclose\n": "closed\nok\nok\nok\n25323061\nclosed\n",
	} {
		wantRun(t, script, want)
	}
	// Each is a new bench's.
	wantRun(t, "let a b\nopen 1\nnames", "ok\nok\na\n")
	wantRun(t, "names\nclose", "none\nclosed\n")
	for n := range 4 {
		wantRun(t, strings.Repeat("\n", api.MaxLines-n), strings.Repeat("\n", api.MaxLines-n))
	}
	wantRun(t, strings.Repeat("\n", api.MaxLines-1)+"x", strings.Repeat("\n", api.MaxLines-1)+"what\n")
	wantRun(t, strings.Repeat("x\n", api.MaxLines), strings.Repeat("what\n", api.MaxLines))
	wantRun(t, strings.Repeat("x", api.MaxText), "what\n")
	wantRun(t, strings.Repeat("x", api.MaxText-1)+"\n", "what\n")
	wantRun(t, "let a ["+strings.Repeat("b", api.MaxText-16)+"]\nnames", "ok\na\n")
	for _, script := range []string{
		strings.Repeat("x", api.MaxText+1), strings.Repeat("x", api.MaxText) + "\n", strings.Repeat("ü", api.MaxText/2) + "x", strings.Repeat("\n", api.MaxLines+1), strings.Repeat("\n", api.MaxLines) + "x", strings.Repeat("names\n", api.MaxLines+1), strings.Repeat("\n", api.MaxText), strings.Repeat("\n", api.MaxText+1), strings.Repeat("x", 1<<20),
	} {
		if got, e := bench.Run(script); got != "" || e != api.ErrLong {
			t.Errorf("%.20q of %d bytes: %.20q, %d", script, len(script), got, e)
		}
	}
}

// P28.2, P28.3: a script's answers are those of a bench, line by line, and its beginning has their beginning.
func TestBeginnings(t *testing.T) {
	r := chance{rand.New(rand.NewSource(284))}
	for range 150 {
		lines := r.script(20)
		b := bench.New()
		want := ""
		for i, line := range lines {
			want += b.Do(line) + "\n"
			script := strings.Join(lines[:i+1], "\n")
			wantRun(t, script+"\n", want)
			if line != "" {
				wantRun(t, script, want)
			}
		}
	}
}

// P28.3: what asks alone changes no later answer.
func TestAsks(t *testing.T) {
	r := chance{rand.New(rand.NewSource(285))}
	for range 300 {
		plain, asked := bench.New(), bench.New()
		for _, line := range r.script(30) {
			for range r.Intn(3) {
				if ask := r.ask(); asked.Do(ask) != asked.Do(ask) {
					t.Fatalf("%q is answered in two ways", ask)
				}
			}
			if a, b := plain.Do(line), asked.Do(line); a != b {
				t.Fatalf("%q: %q, and behind what asks %q", line, a, b)
			}
		}
	}
}
