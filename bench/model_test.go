package bench_test

import (
	"encoding/hex"
	"fmt"
	"math/rand"
	"regexp"
	"slices"
	"sort"
	"strconv"
	"strings"
	"unicode/utf8"

	"umlaut/api"
	"umlaut/node"
	"umlaut/recipe"
	"umlaut/run"
	"umlaut/ship"
)

// texts is what an input is related to; rather many of them are told as too many.
type texts map[string]int

const tooMany = 1 << 9

// thing is what a name names: what it relates an input to, and true; or false, if that is too much.
type thing struct {
	relates func(x string) (texts, bool)
	small   bool // by let, of a size of at most 4, no set of which has more than 4 spans
}

// model is a bench by the chapter's words; what two are joined or chained to is told by what they themselves make of inputs.
type model struct {
	named map[string]thing
	kind  int // 0: no driver is open
	fed   []byte
}

func newModel() *model {
	return &model{named: map[string]thing{}}
}

const (
	nameForm  = `([a-z]{1,16})`
	bytesForm = `(-|(?:[0-9a-fA-F]{2})+)`
)

// forms is the lines that there are.
var forms = []*regexp.Regexp{
	regexp.MustCompile(`(?s)^(let) ` + nameForm + ` (.*)$`),
	regexp.MustCompile(`^(join|chain) ` + nameForm + ` ` + nameForm + ` ` + nameForm + `$`),
	regexp.MustCompile(`^(run) ` + nameForm + `((?: [0-9a-fA-F]{1,6})*)$`),
	regexp.MustCompile(`^(equal) ` + nameForm + ` ` + nameForm + `$`),
	regexp.MustCompile(`^(clean) ([1-4]) ` + bytesForm + `$`),
	regexp.MustCompile(`^(open) ([1-4])$`),
	regexp.MustCompile(`^(write) ` + bytesForm + `$`),
	regexp.MustCompile(`^(close)$`),
	regexp.MustCompile(`^(names)$`),
}

// wants is whether an answer is one that the model gives, too, and what that would be.
func (m *model) wants(line, got string) (string, bool) {
	want := "what"
	if line == "" {
		want = ""
	}
	for _, f := range forms {
		if l := f.FindStringSubmatch(line); l != nil {
			want = m.do(l[1], l[2:], got)
		}
	}
	return want, want == got || want == "any"
}

// do is what the model answers; of several things that may be answered the one that was, if it is one of these; any, if it can't tell.
func (m *model) do(what string, l []string, got string) string {
	switch what {
	case "let":
		return m.let(l[0], l[1])
	case "join", "chain":
		return m.together(what, l, got)
	case "run":
		return m.run(l[0], strings.Fields(l[1]))
	case "equal":
		return m.equal(l[0], l[1], got)
	case "clean":
		return made(number(l[0]), unhex(l[1]))
	case "open":
		m.kind, m.fed = number(l[0]), nil
		return "ok"
	case "write", "close":
		if m.kind == 0 {
			return "closed"
		}
		if what == "write" {
			m.fed = append(m.fed, unhex(l[0])...)
			return "ok"
		}
		want := made(m.kind, m.fed)
		m.kind = 0
		return want
	}
	var names []string
	for n := range m.named {
		names = append(names, n)
	}
	sort.Strings(names)
	if len(names) == 0 {
		return "none"
	}
	return strings.Join(names, " ")
}

func number(s string) int {
	n, _ := strconv.Atoi(s)
	return n
}

func unhex(s string) []byte {
	b, _ := hex.DecodeString(strings.TrimPrefix(s, "-"))
	return b
}

// made is what a kind makes of bytes.
func made(kind int, b []byte) string {
	out, ok := ship.Direct(kind, b)
	if !ok {
		return "reject"
	}
	if len(out) == 0 {
		return "-"
	}
	return fmt.Sprintf("%x", out)
}

// let is let.
func (m *model) let(name, text string) string {
	n, at, e := recipe.Parse(text)
	if e == api.ErrText {
		return fmt.Sprint("fault ", at)
	}
	if e == api.ErrLong {
		return "long"
	}
	if !node.Right(n) {
		return "wrong"
	}
	d, e := node.Compile(n)
	if e != api.OK {
		return "long"
	}
	return m.put(name, thing{small: node.Size(n) <= 4 && fewSpans(n), relates: func(x string) (texts, bool) {
		l, e := run.Outputs(d, []rune(x), tooMany)
		out := texts{}
		for _, y := range l {
			out[string(y)] = 1
		}
		return out, e == api.OK
	}})
}

// fewSpans tells whether no set of a node has more than 4 spans.
func fewSpans(n api.Recipe) bool {
	return len(n.Set) <= 4 && !slices.ContainsFunc(n.L, func(x api.Recipe) bool { return !fewSpans(x) })
}

func (m *model) put(name string, x thing) string {
	if _, ok := m.named[name]; !ok && len(m.named) >= 32 {
		return "full"
	}
	m.named[name] = x
	return "ok"
}

// together is join and chain.
func (m *model) together(what string, l []string, got string) string {
	a, okA := m.named[l[1]]
	b, okB := m.named[l[2]]
	if !okA || !okB {
		return "unknown"
	}
	if what == "chain" && got == "long" && !(a.small && b.small) {
		return "long"
	}
	// Those of the tests that are joined by chance have few states.
	if what == "join" {
		return m.put(l[0], thing{relates: func(x string) (texts, bool) {
			out := texts{}
			return out, out.lay(x, a) && out.lay(x, b)
		}})
	}
	return m.put(l[0], thing{relates: func(x string) (texts, bool) {
		out := texts{}
		first, ok := a.relates(x)
		for u := range first {
			ok = ok && out.lay(u, b)
		}
		return out, ok
	}})
}

// lay puts what a thing relates an input to beside what there is.
func (l texts) lay(x string, by thing) bool {
	out, ok := by.relates(x)
	for y := range out {
		l[y] = 1
	}
	return ok && len(l) <= tooMany
}

// sorted is the texts in the order of words, which is that of their bytes.
func (l texts) sorted() []string {
	var out []string
	for y := range l {
		out = append(out, y)
	}
	sort.Strings(out)
	return out
}

// run is run.
func (m *model) run(name string, symbols []string) string {
	var x []rune
	for _, s := range symbols {
		n, _ := strconv.ParseUint(s, 16, 32)
		if !utf8.ValidRune(rune(n)) {
			return "what"
		}
		x = append(x, rune(n))
	}
	a, ok := m.named[name]
	if !ok {
		return "unknown"
	}
	if len(x) > 1024 {
		return "long"
	}
	l, ok := a.relates(string(x))
	if !ok {
		return "any"
	}
	if len(l) > 64 {
		return "many"
	}
	if len(l) == 0 {
		return "none"
	}
	var out []string
	for _, y := range l.sorted() {
		out = append(out, told(y))
	}
	return strings.Join(out, "; ")
}

// told is how a text's symbols are told.
func told(s string) string {
	if s == "" {
		return "-"
	}
	return strings.Trim(fmt.Sprintf("%x", []rune(s)), "[]")
}

// equal is equal, as far as short inputs tell: of what they don't tell any verdict is left that they don't gainsay.
func (m *model) equal(x, y, got string) string {
	a, okA := m.named[x]
	b, okB := m.named[y]
	if !okA || !okB {
		return "unknown"
	}
	left, right, unlike := false, false, false
	for _, w := range short("abc", 3) {
		l, okL := a.relates(w)
		r, okR := b.relates(w)
		if !okL || !okR {
			return "any"
		}
		left, right = left || len(l) > 1, right || len(r) > 1
		unlike = unlike || fmt.Sprint(l.sorted()) != fmt.Sprint(r.sorted())
	}
	may := []string{"yes", "no", "right", "left"}
	switch {
	case left:
		may = may[3:]
	case right:
		may = may[2:]
	case unlike:
		may = may[1:]
	}
	if slices.Contains(may, got) || got == "long" {
		return got
	}
	return may[0]
}

// short is all words of some symbols that have at most so many.
func short(of string, most int) []string {
	all := []string{""}
	last := all
	for range most {
		var next []string
		for _, w := range last {
			for _, x := range of {
				next = append(next, w+string(x))
			}
		}
		all, last = append(all, next...), next
	}
	return all
}

// chance makes things by chance, the same ones each time.
type chance struct{ *rand.Rand }

func (r chance) of(l ...string) string {
	return l[r.Intn(len(l))]
}

// recipe is a text that mostly is a recipe.
func (r chance) recipe(levels int) string {
	if levels == 0 || r.Intn(4) == 0 {
		return r.of("a", "b", "c", ".", "[a-b]", "[^a]", "[a-b]@1", "[b-c]@-1", "[ac]!", "{a>b}", "{ab>c}", "{a>bb}", "{b>}", "{>c}", "{c>ca}", "[]", "{a>\\u{1f600}}")
	}
	x, y := r.recipe(levels-1), r.recipe(levels-1)
	return r.of(x+y, x+y, x+"|"+y, "("+x+"|"+y+")", "("+x+")*", "("+x+"|"+y+")*"+r.of("", "c"), x)
}

// fault makes of a line one with a fault, perhaps.
func (r chance) fault(line string) string {
	at := r.Intn(len(line) + 1)
	return line[:at] + r.of(" ", "-", "0", "g", "A", "(", "ü", "\xff", "") + line[min(at+r.Intn(2), len(line)):]
}

// name is a name, of which there are few.
func (r chance) name() string {
	return r.of("a", "b", "c", "d", "abcdefghijklmnop")
}

// symbols is symbols, each with a blank ahead.
func (r chance) symbols() string {
	var out string
	for range r.Intn(5) {
		out += " " + r.of("61", "61", "62", "62", "63", "63", "0061", "000062", "1F600", "1f600", "D7FF", "e000", "10ffff", "0")
	}
	return out
}

// bytes is bytes.
func (r chance) bytes() string {
	if r.Intn(5) == 0 {
		return "-"
	}
	var out string
	for range 1 + r.Intn(5) {
		out += r.of("3c", "3C", "26", "c3bc", "C3", "bc", "e2", "82", "ac", "20", "61", "25", "32", "2546", "00", "ff", "22", "f0908080")
	}
	return out
}

// ask is a line that asks alone.
func (r chance) ask() string {
	switch r.Intn(6) {
	case 0:
		return "equal " + r.name() + " " + r.name()
	case 1:
		return "clean " + r.of("1", "2", "3", "4") + " " + r.bytes()
	case 2:
		return "names"
	}
	return "run " + r.name() + r.symbols()
}

// line is a line.
func (r chance) line() string {
	switch r.Intn(14) {
	case 0, 1, 2:
		return "let " + r.name() + " " + r.recipe(3)
	case 3:
		return "join " + r.name() + " " + r.name() + " " + r.name()
	case 4:
		return "chain " + r.name() + " " + r.name() + " " + r.name()
	case 5:
		return "open " + r.of("1", "2", "3", "4")
	case 6, 7:
		return "write " + r.bytes()
	case 8:
		return "close"
	case 9:
		return r.fault(r.line())
	case 10:
		return r.of("", "", "let", "let a", "let a ", "run", "close ", " close", "names names", "open 5", "Names", "clean 1", "what")
	}
	return r.ask()
}

// script is lines.
func (r chance) script(n int) []string {
	var l []string
	for range n {
		l = append(l, strings.ReplaceAll(r.line(), "\n", ""))
	}
	return l
}
