package single

import (
	"umlaut/api"
	"umlaut/roll"
	"umlaut/span"
	"umlaut/states"
)

// machine is one of the two descriptions, by its states.
type machine struct {
	start int
	rules [][]*rule  // those that lead from each state
	into  [][]*rule  // those that lead to it
	ends  [][][]rune // what its finals write
}

// rule is all rules that lead from one state to another one and write the same.
type rule struct {
	from, to int
	guard    []api.Span
	out      []letter
	text     int // the number of what is written, if all of that is fixed; else none
}

// move is what a rule does, whatever it reads: out is the number of its letters.
type move struct{ from, to, out int }

// newMachine is a description that reads one symbol at a time.
func newMachine(d api.Desc, l letters, s *store) *machine {
	rules := rulesOf(d, l, s)
	m := &machine{
		start: d.Start,
		rules: states.By(rules, d.States, func(r *rule) int { return r.from }),
		into:  states.By(rules, d.States, func(r *rule) int { return r.to }),
		ends:  make([][][]rune, d.States),
	}
	for _, f := range d.Finals {
		// What reads nothing writes fixed letters alone.
		m.ends[f.From] = append(m.ends[f.From], tail(l.of(f.Out)))
	}
	return m
}

// rulesOf is a description's rules, one of each move.
func rulesOf(d api.Desc, l letters, s *store) []*rule {
	var out []*rule
	moves := roll.Of[move]()
	for _, r := range d.Rules {
		letters := l.of(r.Out)
		n := moves.Put(move{r.From, r.To, l.list(letters)})
		if n == len(out) {
			out = append(out, &rule{from: r.From, to: r.To, out: letters, text: s.whole(letters)})
		}
		out[n].guard = append(out[n].guard, r.Guards[0]...)
	}
	for _, r := range out {
		r.guard = span.Norm(r.guard)
	}
	return out
}

// whole is the number of the text of letters, if all of them are fixed; else none.
func (s *store) whole(letters []letter) int {
	text := tail(letters)
	if len(text) < len(letters) {
		return none
	}
	return s.text(text)
}
