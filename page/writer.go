package page

import (
	"strconv"

	"umlaut/api"
)

// What lines begin with, what stands in them, and what ends them.
const (
	headWord  = "umlaut"
	ruleWord  = "rule"
	finalWord = "final"
	blank     = " "
	guardOpen = " ["
	spanNext  = ","
	spanTo    = ".."
	guardEnd  = "]"
	arrow     = " ->"
	termOpen  = " ("
	partNext  = "; "
	termEnd   = ")"
	lineEnd   = "\n"
)

// writer is a text that is written.
type writer struct {
	out []byte
}

// full tells whether there are more bytes than a text may have: what is written then counts no more.
func (w *writer) full() bool {
	return len(w.out) > api.MaxText
}

// text writes a text.
func (w *writer) text(s string) {
	w.out = append(w.out, s...)
}

// numbers writes numbers, with a blank between each two.
func (w *writer) numbers(l ...int) {
	for i, x := range l {
		if i > 0 {
			w.text(blank)
		}
		w.out = strconv.AppendInt(w.out, int64(x), 10)
	}
}

// each writes things, with a text between each two; it stops, when there is too much.
func each[T any](w *writer, l []T, between string, write func(T)) {
	for i, x := range l {
		if w.full() {
			return
		}
		if i > 0 {
			w.text(between)
		}
		write(x)
	}
}

// desc writes a description.
func (w *writer) desc(d api.Desc) {
	w.text(headWord + blank)
	w.numbers(int(d.In), int(d.Out), d.States, d.Start)
	w.text(lineEnd)
	each(w, d.Rules, "", w.rule)
	each(w, d.Finals, "", w.final)
}

// rule writes a rule.
func (w *writer) rule(r api.Rule) {
	w.text(ruleWord + blank)
	w.numbers(r.From, r.To, r.Eat)
	w.rest(r.Guards, r.Out)
}

// final writes a final.
func (w *writer) final(f api.Final) {
	w.text(finalWord + blank)
	w.numbers(f.From)
	w.rest(f.Guards, f.Out)
}

// rest writes what rules and finals end with.
func (w *writer) rest(guards [][]api.Span, terms []api.Term) {
	each(w, guards, "", w.guard)
	w.text(arrow)
	each(w, terms, "", w.term)
	w.text(lineEnd)
}

// guard writes a guard.
func (w *writer) guard(g []api.Span) {
	w.text(guardOpen)
	each(w, g, spanNext, w.span)
	w.text(guardEnd)
}

// span writes a span.
func (w *writer) span(s api.Span) {
	w.numbers(s.Lo)
	w.text(spanTo)
	w.numbers(s.Hi)
}

// term writes a term.
func (w *writer) term(t api.Term) {
	w.text(termOpen)
	w.numbers(t.Base, t.Drop, t.Take, t.Up, t.Sum)
	each(w, t.Parts, "", w.part)
	w.text(termEnd)
}

// part writes a part.
func (w *writer) part(p api.Part) {
	w.text(partNext)
	w.numbers(p.At, p.Drop, p.Take, p.Up)
}
