package recipe_test

import (
	"fmt"
	"math/rand"
	"slices"
	"strings"
	"testing"

	"umlaut/api"
	"umlaut/node"
	"umlaut/recipe"
	"umlaut/run"
)

// wantParse asks what a text is read as.
func wantParse(t *testing.T, s string, want api.Recipe) {
	t.Helper()
	n, at, e := recipe.Parse(s)
	if e != api.OK || at != 0 || text(n) != text(want) {
		t.Errorf("Parse(%.60q): %.500s, %d, %d, not %.500s", s, text(n), at, e, text(want))
	}
}

// wantFault asks where a text has its fault.
func wantFault(t *testing.T, s string, want int) {
	t.Helper()
	n, at, e := recipe.Parse(s)
	if e != api.ErrText || at != want || text(n) != text(api.Recipe{}) {
		t.Errorf("Parse(%.60q): %.500s, %d, %d, not a fault at %d", s, text(n), at, e, want)
	}
}

// P25.1: what is read.
func TestParse(t *testing.T) {
	a, b, c := same("a"), same("b"), same("c")
	for s, want := range map[string]api.Recipe{
		"":                cat(),
		"a":               a,
		"ab":              cat(a, b),
		"abc":             cat(a, b, c),
		"a|b":             alt(a, b),
		"a|b|c":           alt(a, b, c),
		"|":               alt(cat(), cat()),
		"a||":             alt(a, cat(), cat()),
		"a|(bc)*":         alt(a, many(cat(b, c))),
		"(a)":             a,
		"((a))":           a,
		"()":              cat(),
		"(())":            cat(),
		"()()":            cat(cat(), cat()),
		"()*":             many(cat()),
		"(|)":             alt(cat(), cat()),
		"(ab)c":           cat(cat(a, b), c),
		"a(bc)":           cat(a, cat(b, c)),
		"(a|b)c":          cat(alt(a, b), c),
		"(a|b)|c":         alt(alt(a, b), c),
		"a*":              many(a),
		"a**":             many(many(a)),
		"ab*":             cat(a, many(b)),
		"a*b**|c*":        alt(cat(many(a), many(many(b))), many(c)),
		"(a|b)*":          many(alt(a, b)),
		"-":               same("-"),
		"^>-":             cat(same("^"), same(">"), same("-")),
		"a-b":             cat(a, same("-"), b),
		"\\^\\>\\-":       cat(same("^"), same(">"), same("-")),
		"\\|\\*\\(\\)":    cat(same("|"), same("*"), same("("), same(")")),
		"\\[\\]\\{\\}":    cat(same("["), same("]"), same("{"), same("}")),
		"\\@\\!\\.\\\\":   cat(same("@"), same("!"), same("."), same("\\")),
		"\\n":             same("\n"),
		"nu\\nn":          cat(same("n"), same("u"), same("\n"), same("n")),
		"\\u{0}":          same("\x00"),
		"\\u{61}\\u{062}": cat(a, b),
		"\\u{000061}1":    cat(a, same("1")),
		"\\u{fF}":         same("ÿ"),
		"\\u{aBcDe}":      same("\U000abcde"),
		"\\u{AbCdE}":      same("\U000abcde"),
		"\\u{10FFFF}":     same("\U0010ffff"),
		"\\u{d7ff}":       same("\ud7ff"),
		"\\u{E000}":       same("\ue000"),
		" ~":              cat(same(" "), same("~")),
		"\u0080ü€\u2028":  cat(same("\u0080"), same("ü"), same("€"), same("\u2028")),
		"\xff\xe2\x82":    cat(same("\ufffd"), same("\ufffd"), same("\ufffd")),
		"#$%&',/:;<=?_`~\"+": cat(same("#"), same("$"), same("%"), same("&"), same("'"), same(","), same("/"), same(":"), same(";"), same("<"),
			same("="), same("?"), same("_"), same("`"), same("~"), same("\""), same("+")),

		"{a>b}":              pair("a", "b"),
		"{ab>}":              pair("ab", ""),
		"{>ab}":              pair("", "ab"),
		"{>}":                pair("", ""),
		"{a>a}":              a,
		"{\\>\\-\\^>\\}\\n}": pair(">-^", "}\n"),
		"{&>&amp;}|[^&]":     alt(pair("&", "&amp;"), moved(0, 0, '&'-1, '&'+1, 0xd7ff, 0xe000, 0x10ffff)),
		"{a>b}*{b>a}":        cat(many(pair("a", "b")), pair("b", "a")),

		".":                          moved(0, 0, 0xd7ff, 0xe000, 0x10ffff),
		".!":                         drop(0, 0xd7ff, 0xe000, 0x10ffff),
		".@1":                        moved(1, 0, 0xd7ff, 0xe000, 0x10ffff),
		"[]":                         alt(),
		"[]*":                        many(alt()),
		"[]a":                        cat(alt(), a),
		"[^]":                        moved(0, 0, 0xd7ff, 0xe000, 0x10ffff),
		"[^]!":                       drop(0, 0xd7ff, 0xe000, 0x10ffff),
		"[a]":                        moved(0, 'a', 'a'),
		"[a-a]":                      moved(0, 'a', 'a'),
		"[ab]":                       moved(0, 'a', 'b'),
		"[bca]":                      moved(0, 'a', 'c'),
		"[x-za-cb-e]":                moved(0, 'a', 'e', 'x', 'z'),
		"[a-cd]":                     moved(0, 'a', 'd'),
		"[^a]":                       moved(0, 0, 'a'-1, 'a'+1, 0xd7ff, 0xe000, 0x10ffff),
		"[^b-\\u{10ffff}]":           moved(0, 0, 'a'),
		"[^\\u{1}-\\u{10fffe}]":      moved(0, 0, 0, 0x10ffff, 0x10ffff),
		"[\\u{d000}-\\u{f000}]":      moved(0, 0xd000, 0xd7ff, 0xe000, 0xf000),
		"[\\u{d7ff}\\u{e000}]":       moved(0, 0xd7ff, 0xd7ff, 0xe000, 0xe000),
		"[\\^\\>\\-\\]]":             moved(0, '-', '-', '>', '>', ']', '^'),
		"[\\--\\>]":                  moved(0, '-', '>'),
		"[\\n-\\u{d}]":               moved(0, 10, 13),
		"[0-9]":                      moved(0, '0', '9'),
		"[a-z]!":                     drop('a', 'z'),
		"[a-z]!*":                    many(drop('a', 'z')),
		"[a-z]@-32":                  moved(-32, 'a', 'z'),
		"[a-z]@32":                   moved(32, 'a', 'z'),
		"[a-z]@0":                    moved(0, 'a', 'z'),
		"[a-z]@-0":                   moved(0, 'a', 'z'),
		"[a-z]@007":                  moved(7, 'a', 'z'),
		"[a-z]@9999999":              moved(9999999, 'a', 'z'),
		"[a-z]@-9999999":             moved(-9999999, 'a', 'z'),
		"[a-z]@00000012":             cat(moved(1, 'a', 'z'), same("2")),
		"[a-z]@12345678":             cat(moved(1234567, 'a', 'z'), same("8")),
		"[a-z]@1a":                   cat(moved(1, 'a', 'z'), a),
		"[a-z]@1-2":                  cat(moved(1, 'a', 'z'), same("-"), same("2")),
		"[a-z]@1*2":                  cat(many(moved(1, 'a', 'z')), same("2")),
		"([a-z]@1)2":                 cat(moved(1, 'a', 'z'), same("2")),
		"[a][b]!.":                   cat(moved(0, 'a', 'a'), drop('b', 'b'), moved(0, 0, 0xd7ff, 0xe000, 0x10ffff)),
		strings.Repeat("a", 1000):    cat(slices.Repeat([]api.Recipe{a}, 1000)...),
		strings.Repeat("a|", 1000):   alt(append(slices.Repeat([]api.Recipe{a}, 1000), cat())...),
		"[" + spread(0, 65) + "]":    moved(0, gaps(0, 65)...),
		"[" + spread(0, 1000) + "]!": drop(gaps(0, 1000)...),
	} {
		wantParse(t, s, want)
	}
}

// spread is so many letters, every other one.
func spread(first, n int) string {
	out := ""
	for i := range n {
		out += fmt.Sprintf("\\u{%x}", first+2*i)
	}
	return out
}

// gaps is the bounds of as many spans.
func gaps(first, n int) []int {
	var out []int
	for i := range n {
		out = append(out, first+2*i, first+2*i)
	}
	return out
}

// P25.1: where the fault is.
func TestFaults(t *testing.T) {
	for s, want := range map[string]int{
		"(a": 2, "(": 1, "(()": 3, "(a|": 3, ")": 0, "a)": 1, "a|)": 2, "(a))": 3, "())": 2,
		"*": 0, "a|*": 2, "(*)": 1, "|*": 1, "a***|**": 5,
		"]": 0, "}": 0, "!": 0, "@": 0, "a!": 1, "a@1": 1, "(a)!": 3, "[a]*!": 4, ".!!": 2, ".!@1": 2, ".@1!": 3, ".@1@1": 3, "a]": 1, "a}b": 1,
		"{": 1, "{a": 2, "{a>": 3, "{a>b": 4, "{a}": 2, "{}": 1, "{a>b>": 4, "{a>b>c}": 4, "{a-b>c}": 2, "{^>a}": 1, "{a>-}": 3, "{a>^}": 3, "{a|b>c}": 2, "{(>a}": 1, "{{": 1, "{a>{": 3, "{.>a}": 1, "{[>a}": 1, "{\\": 2, "{@>a}": 1,
		"[": 1, "[^": 2, "[a": 2, "[a-": 3, "[a-z": 4, "[^a": 3, "[a-]": 3, "[-a]": 1, "[-": 1, "[^-]": 2, "[^^]": 2, "[a^]": 2, "[a>b]": 2, "[a-b-c]": 4, "[a--]": 3, "[.]": 1, "[a|b]": 2, "[a!]": 2, "[[]": 1, "[()]": 1, "[a@1]": 2, "[*]": 1, "[{]": 1,
		"[]!": 2, "[]@1": 2, "[]@": 2, "[]*!": 3, "[]]": 2,
		"[b-a]": 3, "[b-a": 3, "[b-\\u{61}]": 8, "[b-\\n]": 4, "[b-\\-]": 4, "[b-\\u{000061}x": 12, "[^b-a]": 4, "[a-zb-a]": 6, "[\\u{62}-\\u{61}]": 13,
		"[b-\\": 4, "[b-\\u{6": 7, "[b-\\u": 5, "[b-\\u{61": 8, "[b-\\a": 4,
		"[^\\u{0}-\\u{10ffff}]": 18, "[^\\u{0}-\\u{d7ff}\\u{e000}-\\u{10ffff}]": 35, "[^\\u{0}-\\u{10ffff}a-z]": 21, "a[^\\u{0}-\\u{10ffff}]!": 19,
		".@": 2, ".@-": 3, ".@a": 2, ".@-a": 3, ".@--1": 3, ".@+1": 2, ".@*": 2, ".@٣": 2, "[a]@": 4, "[a]@)": 4, "([a]@-)": 6, ".@1)": 3, ".@12345678)": 10,
		"\\": 1, "\\a": 1, "\\N": 1, "\\ ": 1, "\\1": 1, "\\ü": 1, "\\\n": 1, "\\U{61}": 1, "\\\\\\": 3, "a\\": 2,
		"\\u": 2, "\\ua": 2, "\\u61": 2, "\\u{": 3, "\\u{}": 3, "\\u{g}": 3, "\\u{61": 5, "\\u{61g": 5, "\\u{61,}": 5, "\\u{0000061}": 9, "\\u{000061": 9, "\\u{-1}": 3, "\\u{ 61}": 3, "\\u{\\u{": 3,
		"\\u{d800}": 7, "\\u{dfff}": 7, "\\u{DFFF}": 7, "\\u{00d800}": 9, "\\u{110000}": 9, "\\u{ffffff}": 9, "{\\u{d800}>": 8, "[\\u{d800}]": 8, "[a-\\u{d800}]": 10, "a\\u{110000}b": 10,
		"\n": 0, "a\nb": 1, "\x00": 0, "\x1f": 0, "\x7f": 0, "ü\x7f": 1, "{\n>a}": 1, "{a>\t}": 3, "[\n]": 1, "[a-\x7f]": 3, "\\\x00": 1, "a*\r": 2, ".\n": 1, ".@1\n": 3, "(\n)": 1,
		"€\xff!": 2, "üüü)": 3, "\U0001f600\xf0\x9f\x98)": 4, "\xff\xff)": 2,
	} {
		wantFault(t, s, want)
	}
}

// P25.1: all symbols, as letters of themselves, and behind \ .
func TestSymbols(t *testing.T) {
	for x := rune(0); x <= api.MaxRune; x++ {
		if x == 0xd800 {
			x = 0xe000
		}
		if x > 0x3000 && x%251 != 0 && x != 0xd7ff && x != 0xe000 && x < 0x10fff0 {
			continue
		}
		s := string(x)
		sign := strings.Contains("|*()[]{}@!.\\^>-", s)
		control := x < 32 || x == 127
		if !sign && !control {
			wantParse(t, s, same(s))
			wantParse(t, "{"+s+">"+s+s+"}", pair(s, s+s))
			wantParse(t, "["+s+"]", moved(0, int(x), int(x)))
		} else if !strings.Contains("^]>\\", s) {
			wantFault(t, "["+s, 1)
			wantFault(t, "[a-"+s, 3)
			wantFault(t, "{"+s, 1)
			wantFault(t, "{a>b"+s+"}", map[bool]int{true: 5, false: 4}[x == '}'])
		}
		wantParse(t, fmt.Sprintf("\\u{%x}", x), same(s))
		wantParse(t, fmt.Sprintf("[\\u{%06X}]", x), moved(0, int(x), int(x)))
		switch {
		case sign:
			wantParse(t, "\\"+s, same(s))
			wantParse(t, "{\\"+s+">\\"+s+"a}", pair(s, s+"a"))
			wantParse(t, "[\\"+s+"]", moved(0, int(x), int(x)))
		case x == 'n' || x == 'u':
		default:
			wantFault(t, "\\"+s, 1)
		}
		if control {
			wantFault(t, s, 0)
		}
	}
}

// P25.1: how deep, and how long.
func TestLimits(t *testing.T) {
	nested := func(n int, s string) string { return strings.Repeat("(", n) + s + strings.Repeat(")", n) }
	wantParse(t, nested(64, "a"), same("a"))
	wantParse(t, nested(64, "a")+nested(64, "b"), cat(same("a"), same("b")))
	wantParse(t, nested(32, nested(32, "|")), alt(cat(), cat()))
	wantParse(t, nested(63, "(a)(b)"), cat(same("a"), same("b")))
	for _, s := range []string{nested(65, "a"), strings.Repeat("(", 65), strings.Repeat("(", 1000), nested(64, "(")} {
		wantFault(t, s, 64)
	}
	wantFault(t, "a|"+nested(64, "a(b)"), 67)
	wantFault(t, nested(64, "[(]"), 65)
	wantFault(t, strings.Repeat("(", 64), 64)
	for _, s := range []string{"a", "€", "\xff", "|", "()"} {
		n := api.MaxText / len([]rune(s))
		if got, at, e := recipe.Parse(strings.Repeat(s, n)); at != 0 || e != api.OK || len(got.L) < n {
			t.Errorf("so many %q: %d, %d, %d", s, len(got.L), at, e)
		}
		for _, more := range []string{"a", ")", "\n"} {
			if got, at, e := recipe.Parse(strings.Repeat(s, n) + more); at != 0 || e != api.ErrLong || text(got) != text(api.Recipe{}) {
				t.Errorf("one more than so many %q: %d, %d", s, at, e)
			}
		}
		wantFault(t, strings.Repeat(s, n-1)+")", (n-1)*len([]rune(s)))
	}
	if _, at, e := recipe.Parse(strings.Repeat(")", 1<<20)); at != 0 || e != api.ErrLong {
		t.Errorf("very long: %d, %d", at, e)
	}
	n, at, e := recipe.Parse("a" + strings.Repeat("*", api.MaxText-1))
	levels := 0
	for ; n.Kind == api.KMany && len(n.L) == 1; levels++ {
		n = n.L[0]
	}
	if at != 0 || e != api.OK || levels != api.MaxText-1 || text(n) != text(same("a")) {
		t.Errorf("so many *: %d, %d, %d", levels, at, e)
	}
	wantFault(t, "["+strings.Repeat("a-z", 20000), 60001)
	wantParse(t, "[^"+strings.Repeat("b-z", 20000)+"]", moved(0, 0, 'a', 'z'+1, 0xd7ff, 0xe000, 0x10ffff))
}

// P25.1: by a model, of what chance makes of recipes.
func TestByModel(t *testing.T) {
	r := chance{rand.New(rand.NewSource(1))}
	more := []rune(symbols + "u7dDfFx")
	counts := [3]int{}
	for range 30000 {
		w := []rune(alternative(r.node(2)))
		for range r.Intn(4) {
			at := r.Intn(len(w) + 1)
			switch {
			case r.Intn(3) == 0:
				w = slices.Insert(w, at, more[r.Intn(len(more))])
			case at == len(w):
			case r.Intn(2) == 0:
				w[at] = more[r.Intn(len(more))]
			default:
				w = slices.Delete(w, at, at+1)
			}
		}
		if len(w) > 25 {
			continue
		}
		all, _, several := reads(w)
		n, at, e := recipe.Parse(string(w))
		switch {
		case len(all) == 0:
			counts[0]++
			if want := fault(w); e != api.ErrText || at != want || text(n) != text(api.Recipe{}) {
				t.Fatalf("%q: a fault at %d, %d, not at %d", string(w), at, e, want)
			}
		case e != api.OK || at != 0 || !slices.Contains(all, text(n)):
			t.Fatalf("%q: %s, %d, %d, not %q", string(w), text(n), at, e, all)
		case several:
			counts[2]++
		default:
			counts[1]++
			if len(all) != 1 {
				t.Fatalf("%q: %q", string(w), all)
			}
		}
	}
	if slices.Min(counts[:]) < 300 {
		t.Errorf("too few: %v", counts)
	}
}

// wantPrint asks how a node is printed.
func wantPrint(t *testing.T, n api.Recipe, want string) {
	t.Helper()
	if s, e := recipe.Print(n); e != api.OK || s != want {
		t.Errorf("Print(%s): %.200q, %d, not %.200q", text(n), s, e, want)
	}
}

// P25.2: how each kind is printed, and where it stands in ( ).
func TestPrint(t *testing.T) {
	a, b, c, two := same("a"), same("b"), same("c"), same("2")
	up := moved(1, 'a', 'z')
	for _, x := range []struct {
		n    api.Recipe
		want string
	}{
		{a, "a"},
		{cat(), ""}, {cat(a), "(a)"}, {cat(a, b), "ab"}, {cat(cat()), "()"}, {cat(cat(a, b)), "(ab)"}, {cat(alt(a, b)), "(a|b)"}, {cat(cat(a)), "((a))"},
		{alt(), "[]"}, {alt(a), "(a)"}, {alt(a, b, c), "a|b|c"}, {alt(cat()), "()"}, {alt(alt(a, b)), "(a|b)"}, {alt(alt()), "([])"}, {alt(many(a)), "(a*)"},
		{cat(a, cat()), "a()"}, {cat(cat(), cat()), "()()"}, {cat(cat(a, b), c), "(ab)c"}, {cat(cat(a), c), "(a)c"}, {cat(alt(a, b), c), "(a|b)c"}, {cat(alt(a), c), "(a)c"}, {cat(alt(), c), "[]c"}, {cat(many(a), many(b)), "a*b*"},
		{alt(a, cat()), "a|"}, {alt(cat(), cat()), "|"}, {alt(cat(a, b), c), "ab|c"}, {alt(cat(a), c), "(a)|c"}, {alt(alt(a, b), c), "(a|b)|c"}, {alt(alt(a), c), "(a)|c"}, {alt(alt(), c), "[]|c"}, {alt(many(a), b), "a*|b"}, {alt(cat(alt(a, b), c), a), "(a|b)c|a"},
		{many(a), "a*"}, {many(a, b), "(ab)*"}, {many(cat(a, b)), "(ab)*"}, {many(cat(a)), "(a)*"}, {many(alt(a, b)), "(a|b)*"}, {many(alt(a)), "(a)*"}, {many(alt()), "[]*"}, {many(alt(a, b), c), "((a|b)c)*"}, {many(cat(), b), "(()b)*"}, {many(many(a), b), "(a*b)*"}, {many(cat(a, b), c), "((ab)c)*"}, {many(up), "[a-z]@1*"}, {many(drop('a', 'a')), "[a]!*"}, {many(pair("a", "b")), "{a>b}*"}, {many(many(a, b), b), "((ab)*b)*"},
		{moved(0, 0, 0xd7ff, 0xe000, 0x10ffff), "."}, {drop(0, 0xd7ff, 0xe000, 0x10ffff), ".!"}, {moved(0, 0, 0xd7ff, 0xe000, 0x10fffe), "[\\u{0}-\ud7ff\ue000-\U0010fffe]"},
		{moved(0, 'a', 'a'), "[a]"}, {moved(0, 'a', 'b'), "[a-b]"}, {moved(0, 'a', 'a', 'c', 'z'), "[ac-z]"}, {moved(0, '-', '-', ']', '^'), "[\\-\\]-\\^]"}, {moved(0, 10, 31, 127, 128), "[\\n-\\u{1f}\\u{7f}-\u0080]"},
		{up, "[a-z]@1"}, {moved(-32, 'a', 'z'), "[a-z]@-32"}, {moved(0x10ffff, 0, 0), "[\\u{0}]@1114111"}, {moved(-0x10ffff, 0x10ffff, 0x10ffff), "[\U0010ffff]@-1114111"}, {api.Recipe{Kind: api.KDrop, Set: of('a', 'a'), By: 7}, "[a]!"},
		{pair("a", "b"), "{a>b}"}, {pair("a", ""), "{a>}"}, {pair("", "b"), "{>b}"}, {pair("", ""), "{>}"}, {pair("ab", "ab"), "{ab>ab}"}, {pair("a", "aa"), "{a>aa}"}, {pair("aa", "a"), "{aa>a}"}, {pair(">-^", "}|\n\x00"), "{\\>\\-\\^>\\}\\|\\n\\u{0}}"},
		{same(">"), "\\>"}, {same("-"), "\\-"}, {same("^"), "\\^"}, {same("\n"), "\\n"}, {same("\r"), "\\u{d}"}, {same("\x1f"), "\\u{1f}"}, {same("\x7f"), "\\u{7f}"}, {same(" "), " "}, {same("\u0080"), "\u0080"}, {same("\ufffd"), "\ufffd"}, {same("\U0010ffff"), "\U0010ffff"},
		{cat(up, two), "([a-z]@1)2"}, {cat(up, a), "[a-z]@1a"}, {cat(moved(0, 'a', 'a'), two), "[a]2"}, {cat(drop('a', 'a'), two), "[a]!2"}, {cat(two, up), "2[a-z]@1"}, {cat(up, up, two, up), "[a-z]@1([a-z]@1)2[a-z]@1"}, {cat(up, many(two)), "([a-z]@1)2*"}, {many(up, two), "(([a-z]@1)2)*"}, {many(up, many(two)), "(([a-z]@1)2*)*"}, {cat(up, many(two, two)), "[a-z]@1(22)*"}, {cat(up, cat(two)), "[a-z]@1(2)"}, {cat(up, alt(two)), "[a-z]@1(2)"}, {cat(up, cat(two, two)), "[a-z]@1(22)"}, {cat(up, many(cat(two))), "[a-z]@1(2)*"},
		{cat(up, pair("2", "3")), "[a-z]@1{2>3}"}, {cat(up, pair("22", "22")), "[a-z]@1{22>22}"}, {cat(up, pair("", "2")), "[a-z]@1{>2}"}, {cat(up, moved(0, '2', '2')), "[a-z]@1[2]"}, {cat(up, same("٣")), "[a-z]@1٣"}, {cat(up, same("0")), "([a-z]@1)0"}, {cat(up, same("9")), "([a-z]@1)9"}, {cat(up, same("/")), "[a-z]@1/"}, {cat(up, same(":")), "[a-z]@1:"}, {cat(moved(1000000, 'a', 'a'), two), "([a]@1000000)2"}, {cat(moved(-1, 'a', 'a'), two), "([a]@-1)2"}, {cat(many(up), two), "[a-z]@1*2"}, {cat(cat(up), two), "([a-z]@1)2"}, {cat(alt(up), two), "([a-z]@1)2"}, {alt(up, two), "[a-z]@1|2"}, {cat(cat(a, up), two), "(a[a-z]@1)2"}, {cat(up, cat(), two), "[a-z]@1()2"},
	} {
		wantPrint(t, x.n, x.want)
	}
	for _, x := range "|*()[]{}@!.\\^>-" {
		wantPrint(t, same(string(x)), "\\"+string(x))
		wantPrint(t, pair(string(x), ""), "{\\"+string(x)+">}")
		wantPrint(t, moved(0, int(x), int(x)), "[\\"+string(x)+"]")
	}
	// What counts for nothing isn't printed.
	full := api.Recipe{Set: of('a', 'a'), By: 1, Read: []rune("a"), Write: []rune("b"), L: []api.Recipe{a, b}}
	for kind, want := range map[int]string{api.KCopy: "[a]@1", api.KDrop: "[a]!", api.KPair: "{a>b}", api.KCat: "ab", api.KAlt: "a|b", api.KMany: "(ab)*"} {
		full.Kind = kind
		wantPrint(t, full, want)
	}
}

// wantNone asks of a node that can't be printed.
func wantNone(t *testing.T, n api.Recipe, want api.Errno, what string) {
	t.Helper()
	if s, e := recipe.Print(n); s != "" || e != want {
		t.Errorf("Print, %s: %.60q, %d, not %d", what, s, e, want)
	}
}

// P25.2: what isn't right, and what is too long.
func TestPrintErrors(t *testing.T) {
	a := same("a")
	deep := func(n api.Recipe, above int) api.Recipe {
		for range above {
			n = cat(n)
		}
		return n
	}
	long := strings.Repeat("a", api.MaxText)
	wantNone(t, api.Recipe{}, api.ErrInvalid, "of no kind")
	wantNone(t, many(many(a)), api.ErrInvalid, "again and again what is so already")
	wantNone(t, many(), api.ErrInvalid, "again and again nothing")
	wantNone(t, moved(0), api.ErrInvalid, "a copy of nothing")
	wantNone(t, moved(0, 'b', 'b', 'a', 'a'), api.ErrInvalid, "a copy of what isn't plain")
	wantNone(t, moved(9999999, 'a', 'a'), api.ErrInvalid, "a copy that is moved too far")
	wantNone(t, cat(a, alt(a, many(cat()))), api.ErrInvalid, "what isn't right, deeper")
	wantNone(t, cat(pair(long, long), api.Recipe{}), api.ErrInvalid, "what is too long and isn't right")
	wantNone(t, deep(a, 65), api.ErrInvalid, "too deep")
	wantPrint(t, deep(a, 64), strings.Repeat("(", 64)+"a"+strings.Repeat(")", 64))
	wantNone(t, deep(cat(a, pair(long, long)), 64), api.ErrInvalid, "too deep and too long")

	times := func(n api.Recipe, k int) []api.Recipe { return slices.Repeat([]api.Recipe{n}, k) }
	for _, c := range []struct {
		n    api.Recipe // just as long as may be
		want string
	}{
		{pair(long[:api.MaxText-3], ""), "{" + long[:api.MaxText-3] + ">}"},
		{pair("", strings.Repeat("€", api.MaxText-3)), "{>" + strings.Repeat("€", api.MaxText-3) + "}"},
		{cat(times(a, api.MaxText)...), long},
		{alt(times(cat(), api.MaxText+1)...), strings.Repeat("|", api.MaxText)},
		{alt(cat(times(a, api.MaxText-1)...), cat()), long[1:] + "|"},
		{cat(append(times(moved(0, 'a', 'a', 'c', 'e'), 10922), times(a, 4)...)...), strings.Repeat("[ac-e]", 10922) + "aaaa"},
		{alt(append(times(same("\n"), 21845), a)...), strings.Repeat("\\n|", 21845) + "a"},
	} {
		wantPrint(t, c.n, c.want)
		if n := len([]rune(c.want)); n != api.MaxText {
			t.Errorf("%d symbols", n)
		}
		wantNone(t, alt(c.n, cat()), api.ErrLong, "one symbol more")
	}
	for i, n := range []api.Recipe{
		pair(long[:api.MaxText-2], ""), pair("", long[:api.MaxText-2]), pair(long, long), cat(times(a, api.MaxText+1)...), alt(times(cat(), api.MaxText+2)...),
		many(times(a, api.MaxText-2)...), many(pair(long[:api.MaxText-3], "")), cat(alt(times(cat(), api.MaxText)...)), cat(cat(times(a, api.MaxText-1)...)),
		pair(strings.Repeat("\x00", api.MaxText/5), ""), cat(times(same("."), api.MaxText/2+1)...), cat(times(moved(0, gaps('a', 64)...), 2000)...),
		cat(pair(long[:api.MaxText-11], ""), drop('a', 'a'), drop('a', 'a'), a), cat(pair(long[:api.MaxText-8], ""), moved(1, 'a', 'a'), same("1")),
	} {
		wantNone(t, n, api.ErrLong, fmt.Sprintf("too long, %d", i))
	}
	wantPrint(t, many(times(a, api.MaxText-3)...), "("+long[3:]+")*")
	wantPrint(t, many(pair(long[4:], "")), "{"+long[4:]+">}*")
	wantPrint(t, cat(pair(long[11:], ""), drop('a', 'a'), drop('a', 'a')), "{"+long[11:]+">}[a]![a]!")

	// Nodes that stand in very many places, and within themselves.
	for _, leaf := range []api.Recipe{a, cat(), alt()} {
		for _, make := range []func(...api.Recipe) api.Recipe{cat, alt} {
			n := leaf
			for range 64 {
				n = make(n, n)
			}
			wantNone(t, n, api.ErrLong, "of many places")
		}
	}
	l := []api.Recipe{a, {Kind: api.KAlt}}
	l[1].L = l
	wantNone(t, l[1], api.ErrInvalid, "within itself")
}

// P25.2, P25.3: by a model, of what chance makes; what is printed is read as what is to be, and printed as it was.
func TestThereAndBack(t *testing.T) {
	r := chance{rand.New(rand.NewSource(2))}
	counts := [2]int{}
	for range 60000 {
		n := r.node(4)
		s, e := recipe.Print(n)
		if !node.Right(n) {
			counts[0]++
			if s != "" || e != api.ErrInvalid {
				t.Fatalf("Print(%s): %q, %d", text(n), s, e)
			}
			continue
		}
		counts[1]++
		if want := alternative(n); s != want || e != api.OK {
			t.Fatalf("Print(%s): %q, %d, not %q", text(n), s, e, want)
		}
		back := readBack(n)
		wantParse(t, s, back)
		wantPrint(t, back, func() string { s, _ := recipe.Print(back); return s }())
		again, _ := recipe.Print(back)
		wantParse(t, again, back)
		if t.Failed() {
			t.Fatalf("%s: %q, %q", text(n), s, again)
		}
	}
	if slices.Min(counts[:]) < 2000 {
		t.Errorf("too few: %v", counts)
	}
}

// outputs is all that a node relates an input to.
func outputs(t *testing.T, n api.Recipe, x string) []string {
	t.Helper()
	d, e := node.Compile(n)
	if e != api.OK {
		t.Fatalf("Compile(%s): %d", text(n), e)
	}
	l, e := run.Outputs(d, []rune(x), 1<<20)
	if e != api.OK {
		t.Fatalf("Outputs: %d", e)
	}
	var out []string
	for _, y := range l {
		out = append(out, string(y))
	}
	return out
}

// P25.3: what is printed is read as what relates the same.
func TestRelates(t *testing.T) {
	r := chance{rand.New(rand.NewSource(3))}
	for range 3000 {
		n := r.node(3)
		if !node.Right(n) {
			continue
		}
		s, _ := recipe.Print(n)
		m, _, e := recipe.Parse(s)
		if e != api.OK || !node.Right(m) {
			t.Fatalf("%q: %d", s, e)
		}
		for range 10 {
			x := r.word(r.Intn(4))
			if got, want := outputs(t, m, x), outputs(t, n, x); !slices.Equal(got, want) {
				t.Fatalf("%q of %q: %q, not %q", s, x, got, want)
			}
		}
	}
	for _, c := range []struct {
		s, x string
		want []string
	}{
		{"a|(bc)*", "abc", nil}, {"a|(bc)*", "bcbc", []string{"bcbc"}}, {"a|(bc)*", "", []string{""}},
		{"{&>&amp;}|[^&]", "&", []string{"&amp;"}}, {"{&>&amp;}|[^&]", "ü", []string{"ü"}}, {"{&>&amp;}|[^&]", "", nil},
		{"[a-z]@-32", "q", []string{"Q"}}, {"[a-z]@-32", "Q", nil}, {"{x>y}|z", "x", []string{"y"}},
	} {
		n, _, e := recipe.Parse(c.s)
		if got := outputs(t, n, c.x); e != api.OK || !slices.Equal(got, c.want) {
			t.Errorf("%q of %q: %q, %d", c.s, c.x, got, e)
		}
	}
}

// whole is a node as a text, with what lies in its lists' room.
func whole(n api.Recipe) string {
	out := fmt.Sprint(n.Kind, n.By, n.Set[:cap(n.Set)], n.Read[:cap(n.Read)], n.Write[:cap(n.Write)], "{")
	for _, x := range n.L[:cap(n.L)] {
		out += whole(x)
	}
	return out + "}"
}

// roomy is a list with room behind it, in which something stands.
func roomy[T any](l []T, behind T) []T {
	return append(slices.Clip(slices.Clone(l)), behind, behind)[:len(l)]
}

// Rule 4: what is handed in isn't changed; what is answered is new memory, of which no two lists share any. Rule 6: the same is answered again.
func TestMemory(t *testing.T) {
	const s = "a(b|[x-z]@1)*.!{ab>c}[^a][]"
	n, _, _ := recipe.Parse(s)
	want := text(n)
	seen := map[any]int{}
	lists := 0
	var mark func(n api.Recipe)
	mark = func(n api.Recipe) {
		for i := range n.Set {
			seen[&n.Set[i]], lists = 1, lists+1
		}
		for i := range n.Read {
			seen[&n.Read[i]], lists = 1, lists+1
		}
		for i := range n.Write {
			seen[&n.Write[i]], lists = 1, lists+1
		}
		for i := range n.L {
			seen[&n.L[i]], lists = 1, lists+1
			mark(n.L[i])
		}
	}
	mark(n)
	if len(seen) != lists {
		t.Error("lists of an answer share memory")
	}
	var scrawl func(n api.Recipe)
	scrawl = func(n api.Recipe) {
		for _, x := range n.L {
			scrawl(x)
		}
		for i := range n.Set[:cap(n.Set)] {
			n.Set[:cap(n.Set)][i] = api.Span{Lo: -7}
		}
		clear(n.Read[:cap(n.Read)])
		clear(n.Write[:cap(n.Write)])
		clear(n.L[:cap(n.L)])
	}
	scrawl(n)
	wantParse(t, s, api.Recipe{Kind: api.KCat, L: []api.Recipe{same("a"), many(alt(same("b"), moved(1, 'x', 'z'))), {Kind: api.KDrop, Set: all()}, pair("ab", "c"), moved(0, 0, 'a'-1, 'b', 0xd7ff, 0xe000, 0x10ffff), alt()}})
	if n, _, _ = recipe.Parse(s); text(n) != want {
		t.Errorf("%s, and then %s", want, text(n))
	}

	l := []api.Recipe{
		{Kind: api.KCopy, Set: roomy(of('a', 'b', 'f', 'g'), api.Span{Lo: 66}), By: 1},
		{Kind: api.KPair, Read: roomy([]rune("2"), -7), Write: roomy([]rune("2"), -7)},
		{Kind: api.KPair, Read: roomy([]rune("ab"), -7), Write: roomy([]rune("\n\x00"), -7)},
	}
	n = api.Recipe{Kind: api.KMany, L: roomy(l, api.Recipe{Kind: 66})}
	before := whole(n)
	for range 2 {
		wantPrint(t, n, "(([a-bf-g]@1)2{ab>\\n\\u{0}})*")
	}
	if whole(n) != before {
		t.Errorf("what was handed in is changed: %s", whole(n))
	}
}
