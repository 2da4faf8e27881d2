package pack

import "umlaut/api"

// writer is bytes that are written, and whether a number was too wide to be one of them.
type writer struct {
	out  []byte
	wide bool
}

// numbers writes numbers, of each the highest byte first.
func (w *writer) numbers(l ...int) {
	for _, x := range l {
		bits := uint32(x)
		w.wide = w.wide || signed(bits) != x
		w.out = append(w.out, byte(bits>>24), byte(bits>>16), byte(bits>>8), byte(bits))
	}
}

// table writes a table that is right.
func (w *writer) table(t api.Table) {
	w.numbers(len(t.Nodes[0].Next), len(t.Nodes), len(t.Acts), len(t.Ends))
	w.out = append(w.out, t.Class[:]...)
	for _, n := range t.Nodes {
		w.numbers(n.Held, n.End)
		w.numbers(n.Next...)
	}
	for _, a := range t.Acts {
		w.numbers(a.Eat, a.To)
		w.terms(a.Out)
	}
	for _, out := range t.Ends {
		w.terms(out)
	}
}

// terms writes terms.
func (w *writer) terms(l []api.Term) {
	w.numbers(len(l))
	for _, t := range l {
		w.numbers(t.Base, t.Drop, t.Take, t.Up, t.Sum, len(t.Parts))
		for _, p := range t.Parts {
			w.numbers(p.At, p.Drop, p.Take, p.Up)
		}
	}
}
