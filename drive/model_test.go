package drive_test

import (
	"math/rand"
	"slices"

	"umlaut/api"
	"umlaut/term"
)

// course is how far a table comes on bytes that have come, by the chapter's words: from the first byte on, each window behind what the acts before it have eaten.
type course struct {
	node    int
	held    []byte
	gone    int // how many bytes were eaten
	out     []byte
	rejects bool
}

// writes is what terms write of a window.
func writes(l []api.Term, window []byte) []byte {
	var w []rune
	for _, x := range window {
		w = append(w, rune(x))
	}
	var out []byte
	for _, t := range l {
		if v, ok := term.Value(t, w); ok {
			out = append(out, byte((v%256+256)%256))
		}
	}
	return out
}

// courseOf is the course of bytes.
func courseOf(t api.Table, b []byte) course {
	var c course
	for at := 0; at < len(b); at++ {
		n := t.Nodes[c.node].Next[t.Class[b[at]]]
		c.held = b[c.gone : at+1]
		if n == -1 {
			return course{gone: c.gone, out: c.out, rejects: true}
		}
		if n >= 0 {
			c.node = n
			continue
		}
		a := t.Acts[-2-n]
		c.out = append(c.out, writes(a.Out, c.held)...)
		c.node, c.held = a.To, nil
		c.gone += a.Eat
		at = c.gone - 1 // what is left of the window is read again
	}
	return c
}

// end is what the end writes; false, if there is none.
func (c course) end(t api.Table) ([]byte, bool) {
	if c.rejects || t.Nodes[c.node].End == -1 {
		return nil, false
	}
	return writes(t.Ends[t.Nodes[c.node].End], c.held), true
}

// randomTerm is a term that is right, of windows of n bytes, but whose values may be anything.
func randomTerm(r *rand.Rand, n int) api.Term {
	small := func() int {
		return []int{0, r.Intn(20) - 10, r.Intn(600) - 300, r.Intn(2*api.MaxRune+1) - api.MaxRune}[r.Intn(4)]
	}
	x := api.Term{Base: small(), Sum: small(), Take: api.MaxBits}
	if r.Intn(2) == 0 {
		x.Drop, x.Take, x.Up = r.Intn(5), 1+r.Intn(6), r.Intn(9)
	}
	for up := r.Intn(3); n > 0 && len(x.Parts) < r.Intn(5); up += 1 + r.Intn(5) {
		x.Parts = append(x.Parts, api.Part{At: r.Intn(n), Drop: r.Intn(4), Take: 1 + r.Intn(6), Up: up})
	}
	return x
}

// randomTerms is a few such terms.
func randomTerms(r *rand.Rand, n int) []api.Term {
	var l []api.Term
	for range r.Intn(4) {
		l = append(l, randomTerm(r, n))
	}
	return l
}

// random is any right table.
func random(r *rand.Rand) api.Table {
	var x api.Table
	classes := 1 + r.Intn(4)
	for i := range x.Class {
		x.Class[i] = uint8(r.Intn(classes))
	}
	for i := range 2 + r.Intn(14) {
		x.Nodes = append(x.Nodes, api.Node{Held: min(i, r.Intn(5)), End: -1})
	}
	for i := range x.Nodes {
		n := &x.Nodes[i]
		for range classes {
			n.Next = append(n.Next, randomNext(r, &x, n.Held))
		}
		if r.Intn(4) > 0 {
			n.End = len(x.Ends)
			x.Ends = append(x.Ends, randomTerms(r, n.Held))
		}
	}
	return x
}

// randomNext is where a node leads that holds so many bytes; a new act is made for it, if it is that.
func randomNext(r *rand.Rand, x *api.Table, held int) int {
	var more, firsts []int
	for i, n := range x.Nodes {
		if n.Held == held+1 {
			more = append(more, i)
		}
		if n.Held == 0 {
			firsts = append(firsts, i)
		}
	}
	switch k := r.Intn(20); {
	case held == api.MaxWindow || k == 0:
		return -1
	case k < 12 && len(more) > 0:
		return more[r.Intn(len(more))]
	}
	x.Acts = append(x.Acts, api.Act{Eat: 1 + r.Intn(held+1), To: firsts[r.Intn(len(firsts))], Out: randomTerms(r, held+1)})
	return -1 - len(x.Acts)
}

// randomBytes is up to n bytes.
func randomBytes(r *rand.Rand, n int) []byte {
	b := make([]byte, r.Intn(n+1))
	r.Read(b)
	return b
}

// way is what the one way of a sole description without epsilon rules has written on an input, after each rule: so much was eaten, and that was written.
func way(d api.Desc, b []byte) (eaten []int, written [][]byte) {
	at, q := 0, d.Start
	var out []byte
	for {
		eaten, written = append(eaten, at), append(written, slices.Clone(out))
		i := slices.IndexFunc(d.Rules, func(r api.Rule) bool {
			return r.From == q && len(r.Guards) <= len(b)-at && reads(r.Guards, b[at:])
		})
		if i < 0 {
			return eaten, written
		}
		r := d.Rules[i]
		out = append(out, writes(r.Out, b[at:at+len(r.Guards)])...)
		at, q = at+r.Eat, r.To
	}
}

// reads tells whether bytes begin with a window of guards.
func reads(guards [][]api.Span, b []byte) bool {
	for i, g := range guards {
		if !slices.ContainsFunc(g, func(s api.Span) bool { return s.Lo <= int(b[i]) && int(b[i]) <= s.Hi }) {
			return false
		}
	}
	return true
}
