package page_test

import (
	"fmt"
	"math"
	"math/rand"
	"regexp"
	"strconv"
	"strings"

	"umlaut/api"
)

// written is a description's text, by the chapter's words.
func written(d api.Desc) string {
	var b strings.Builder
	rest := func(guards [][]api.Span, terms []api.Term) {
		for _, g := range guards {
			var l []string
			for _, s := range g {
				l = append(l, fmt.Sprintf("%d..%d", s.Lo, s.Hi))
			}
			fmt.Fprintf(&b, " [%s]", strings.Join(l, ","))
		}
		fmt.Fprint(&b, " ->")
		for _, t := range terms {
			fmt.Fprintf(&b, " (%d %d %d %d %d", t.Base, t.Drop, t.Take, t.Up, t.Sum)
			for _, p := range t.Parts {
				fmt.Fprintf(&b, "; %d %d %d %d", p.At, p.Drop, p.Take, p.Up)
			}
			fmt.Fprint(&b, ")")
		}
		fmt.Fprintln(&b)
	}
	fmt.Fprintf(&b, "umlaut %d %d %d %d\n", d.In, d.Out, d.States, d.Start)
	for _, r := range d.Rules {
		fmt.Fprintf(&b, "rule %d %d %d", r.From, r.To, r.Eat)
		rest(r.Guards, r.Out)
	}
	for _, f := range d.Finals {
		fmt.Fprintf(&b, "final %d", f.From)
		rest(f.Guards, f.Out)
	}
	return b.String()
}

// forms is the forms of numbers, and of a description's lines: the first one, rules, finals.
type forms struct{ number, head, rule, final *regexp.Regexp }

// newForms is the forms, by the chapter's words.
func newForms() forms {
	const number = `(?:0|-?[1-9][0-9]*)` // of any size
	list := func(n int) string { return strings.TrimSuffix(strings.Repeat(number+" ", n), " ") }
	span := number + `\.\.` + number
	guards := `(?: \[(?:` + span + `(?:,` + span + `)*)?\])*`
	terms := `(?: \(` + list(5) + `(?:; ` + list(4) + `)*\))*`
	whole := func(s string) *regexp.Regexp { return regexp.MustCompile(`\A` + s + `\z`) }
	return forms{
		number: regexp.MustCompile(number),
		head:   whole(`umlaut ` + list(4)),
		rule:   whole(`rule ` + list(3) + guards + ` ->` + terms),
		final:  whole(`final ` + list(1) + guards + ` ->` + terms),
	}
}

// fault is the first line with which no description's text begins; 0, if the text is a description's.
func (f forms) fault(s string) int {
	lines := strings.Split(s, "\n")
	behindRules := false
	for i, line := range lines[:len(lines)-1] {
		form := f.final
		switch {
		case i == 0:
			form = f.head
		case !behindRules && strings.HasPrefix(line, "rule"):
			form = f.rule
		default:
			behindRules = true
		}
		if !form.MatchString(line) || !f.small(line) {
			return i + 1
		}
	}
	if len(lines) == 1 || lines[len(lines)-1] != "" {
		return len(lines)
	}
	return 0
}

// small tells whether all numbers of a line are ints.
func (f forms) small(line string) bool {
	for _, s := range f.number.FindAllString(line, -1) {
		if _, err := strconv.ParseInt(s, 10, strconv.IntSize); err != nil {
			return false
		}
	}
	return true
}

// random makes descriptions, well formed or not.
type random struct{ *rand.Rand }

// number is any number.
func (r random) number() int {
	switch r.Intn(8) {
	case 0:
		return int(r.Uint64())
	case 1:
		return []int{math.MaxInt, math.MinInt, math.MinInt + 1, math.MaxInt32 + 1, -10, 10, -1, api.MaxRune}[r.Intn(8)]
	}
	return r.Intn(14) - 3
}

// some is some things.
func some[T any](r random, most int, make func() T) []T {
	var l []T
	for range r.Intn(most + 1) {
		l = append(l, make())
	}
	return l
}

// guards is any guards.
func (r random) guards() [][]api.Span {
	return some(r, 3, func() []api.Span {
		return some(r, 3, func() api.Span { return api.Span{Lo: r.number(), Hi: r.number()} })
	})
}

// terms is any terms.
func (r random) terms() []api.Term {
	return some(r, 3, func() api.Term {
		return api.Term{Base: r.number(), Drop: r.number(), Take: r.number(), Up: r.number(), Sum: r.number(), Parts: some(r, 5, func() api.Part {
			return api.Part{At: r.number(), Drop: r.number(), Take: r.number(), Up: r.number()}
		})}
	})
}

// desc is any description.
func (r random) desc() api.Desc {
	return api.Desc{
		In: api.Sort(r.number()), Out: api.Sort(r.number()), States: r.number(), Start: r.number(),
		Rules: some(r, 4, func() api.Rule {
			return api.Rule{From: r.number(), To: r.number(), Guards: r.guards(), Eat: r.number(), Out: r.terms()}
		}),
		Finals: some(r, 4, func() api.Final {
			return api.Final{From: r.number(), Guards: r.guards(), Out: r.terms()}
		}),
	}
}
