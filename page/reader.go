package page

import (
	"strconv"
	"strings"

	"umlaut/api"
)

// reader is what is left of a line, and whether that can be none of a description's text.
type reader struct {
	left  string
	wrong bool
}

// take goes over a text, if it stands here.
func (r *reader) take(s string) bool {
	rest, ok := strings.CutPrefix(r.left, s)
	r.left = rest
	return ok
}

// must goes over a text, which has to stand here.
func (r *reader) must(s string) {
	if !r.take(s) {
		r.wrong = true
	}
}

// numbers reads numbers, with a blank between each two.
func (r *reader) numbers(l ...*int) {
	for i, x := range l {
		if i > 0 {
			r.must(blank)
		}
		*x = r.number()
	}
}

// number reads a number.
func (r *reader) number() int {
	rest := strings.TrimLeft(strings.TrimPrefix(r.left, "-"), "0123456789")
	s := r.left[:len(r.left)-len(rest)]
	r.left = rest
	x, err := strconv.Atoi(s)
	// A number is written in one way alone.
	if err != nil || strconv.Itoa(x) != s {
		r.wrong = true
	}
	return x
}

// head reads the first line.
func (r *reader) head() api.Desc {
	var d api.Desc
	var in, out int
	r.must(headWord + blank)
	r.numbers(&in, &out, &d.States, &d.Start)
	d.In, d.Out = api.Sort(in), api.Sort(out)
	return d
}

// line reads a line behind the first one: a rule, if no final is ahead of it, or a final.
func (r *reader) line(d *api.Desc) {
	if len(d.Finals) == 0 && r.take(ruleWord+blank) {
		var x api.Rule
		r.numbers(&x.From, &x.To, &x.Eat)
		x.Guards, x.Out = r.rest()
		d.Rules = append(d.Rules, x)
		return
	}
	var x api.Final
	r.must(finalWord + blank)
	r.numbers(&x.From)
	x.Guards, x.Out = r.rest()
	d.Finals = append(d.Finals, x)
}

// rest reads what rules and finals end with.
func (r *reader) rest() ([][]api.Span, []api.Term) {
	var guards [][]api.Span
	for r.take(guardOpen) {
		guards = append(guards, r.guard())
	}
	r.must(arrow)
	var terms []api.Term
	for r.take(termOpen) {
		terms = append(terms, r.term())
	}
	return guards, terms
}

// guard reads a guard, behind its beginning.
func (r *reader) guard() []api.Span {
	if r.take(guardEnd) {
		return nil
	}
	out := []api.Span{r.span()}
	for r.take(spanNext) {
		out = append(out, r.span())
	}
	r.must(guardEnd)
	return out
}

// span reads a span.
func (r *reader) span() api.Span {
	var s api.Span
	r.numbers(&s.Lo)
	r.must(spanTo)
	r.numbers(&s.Hi)
	return s
}

// term reads a term, behind its beginning.
func (r *reader) term() api.Term {
	var t api.Term
	r.numbers(&t.Base, &t.Drop, &t.Take, &t.Up, &t.Sum)
	for r.take(partNext) {
		var p api.Part
		r.numbers(&p.At, &p.Drop, &p.Take, &p.Up)
		t.Parts = append(t.Parts, p)
	}
	r.must(termEnd)
	return t
}
