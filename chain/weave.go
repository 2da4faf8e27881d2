package chain

import (
	"umlaut/api"
	"umlaut/states"
)

// weaver makes the description of one that stands behind another one: its states are pairs of theirs.
type weaver struct {
	rules  [][]api.Rule // of each state of the first one
	eaters [][]*course  // and their courses
	enders [][]*course  // those of its finals
	behind *second
	pairs  []pair // in the order in which they come
	come   []bool
	out    api.Desc
}

// pair is a state of the first description and one of the second.
type pair struct{ first, second int }

// step is what a rule does, whatever its windows are.
type step struct{ to, eat, out int }

// weave begins with two descriptions that fit.
func weave(a, b api.Desc) *weaver {
	w := &weaver{rules: states.By(a.Rules, a.States, states.OfRule), behind: newSecond(b)}
	for q, finals := range states.By(a.Finals, a.States, states.OfFinal) {
		var eaters, enders []*course
		for _, r := range w.rules[q] {
			eaters = append(eaters, newCourse(w.behind, r.Guards, r.Out, false))
		}
		for _, f := range finals {
			enders = append(enders, newCourse(w.behind, f.Guards, f.Out, true))
		}
		w.eaters, w.enders = append(w.eaters, eaters), append(w.enders, enders)
	}
	w.out = api.Desc{In: a.In, Out: b.Out, States: a.States * b.States}
	w.come = make([]bool, w.out.States)
	w.out.Start = w.state(pair{a.Start, b.Start})
	return w
}

// state is the number of a pair, which has come with that.
func (w *weaver) state(p pair) int {
	n := p.first*len(w.behind.readers) + p.second
	if !w.come[n] {
		w.come[n] = true
		w.pairs = append(w.pairs, p)
	}
	return n
}

// all goes through all pairs that come; false, if the description is too great.
func (w *weaver) all() bool {
	for i := 0; i < len(w.pairs); i++ {
		if !w.eat(w.pairs[i]) || !w.end(w.pairs[i]) {
			return false
		}
	}
	return true
}

// eat makes a pair's rules.
func (w *weaver) eat(p pair) bool {
	all := newBundle[step]()
	for i, c := range w.eaters[p.first] {
		r := w.rules[p.first][i]
		l := c.strands(p.second)
		if w.behind.left < 0 {
			return false
		}
		for j, s := range l.keys {
			to := w.state(pair{r.To, s.state})
			if !w.behind.spend(len(l.boxes[j]) * all.add(step{to, r.Eat, s.out}, l.boxes[j]...)) {
				return false
			}
		}
	}
	from := w.state(p)
	for i, s := range all.keys {
		if s.out == tooLong {
			return false
		}
		for _, box := range all.boxes[i] {
			for _, g := range cut(box) {
				w.out.Rules = append(w.out.Rules, api.Rule{From: from, To: s.to, Guards: g, Eat: s.eat, Out: w.behind.store.tell(s.out)})
			}
			if len(w.out.Rules) > api.MaxRules {
				return false
			}
		}
	}
	return true
}

// end makes a pair's finals.
func (w *weaver) end(p pair) bool {
	all := newBundle[int]()
	for _, c := range w.enders[p.first] {
		l := c.strands(p.second)
		if w.behind.left < 0 {
			return false
		}
		for j, s := range l.keys {
			for _, f := range w.behind.finals[s.state] {
				out := w.behind.store.put(s.out, w.behind.store.numbers(f.Out))
				if !w.behind.spend(len(l.boxes[j]) * all.add(out, l.boxes[j]...)) {
					return false
				}
			}
		}
	}
	from := w.state(p)
	for i, out := range all.keys {
		if out == tooLong {
			return false
		}
		for _, box := range all.boxes[i] {
			for _, g := range cut(box) {
				w.out.Finals = append(w.out.Finals, api.Final{From: from, Guards: g, Out: w.behind.store.tell(out)})
			}
			if len(w.out.Finals) > api.MaxRules {
				return false
			}
		}
	}
	return true
}
