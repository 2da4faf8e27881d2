package pack

import "umlaut/api"

// maxClasses is how many classes bytes have at most.
const maxClasses = 256

// partNumbers is how many numbers a part has.
const partNumbers = 4

// reader is bytes that are left to be read, and whether they can be no right table's.
type reader struct {
	left  []byte
	wrong bool
}

// bytes reads so many bytes; none, if there are too few.
func (r *reader) bytes(n int) []byte {
	if n > len(r.left) {
		r.wrong = true
		return nil
	}
	out := r.left[:n]
	r.left = r.left[n:]
	return out
}

// number reads a number; 0, if there is none.
func (r *reader) number() int {
	bits := uint32(0)
	for _, x := range r.bytes(width) {
		bits = bits<<8 | uint32(x)
	}
	return signed(bits)
}

// count reads how many things follow. It is 0, if that is more than there may be: so no room is made for what is no table.
func (r *reader) count(most int) int {
	n := r.number()
	if n < 0 || n > most {
		r.wrong = true
		return 0
	}
	return n
}

// table reads a table, right or not.
func (r *reader) table() api.Table {
	classes, nodes, acts, ends := r.count(maxClasses), r.count(api.MaxNodes), r.count(api.MaxRules), r.count(api.MaxRules)
	var t api.Table
	copy(t.Class[:], r.bytes(len(t.Class)))
	for range nodes {
		t.Nodes = append(t.Nodes, r.node(classes))
	}
	for range acts {
		t.Acts = append(t.Acts, api.Act{Eat: r.number(), To: r.number(), Out: r.terms()})
	}
	for range ends {
		t.Ends = append(t.Ends, r.terms())
	}
	return t
}

// node reads a node with so many classes.
func (r *reader) node(classes int) api.Node {
	n := api.Node{Held: r.number(), End: r.number(), Next: make([]int, classes)}
	for c := range n.Next {
		n.Next[c] = r.number()
	}
	return n
}

// terms reads terms.
func (r *reader) terms() []api.Term {
	var out []api.Term
	for range r.count(api.MaxOut) {
		out = append(out, api.Term{Base: r.number(), Drop: r.number(), Take: r.number(), Up: r.number(), Sum: r.number(), Parts: r.parts()})
	}
	return out
}

// parts reads parts: of an act or end that no node tells of there may be any of them.
func (r *reader) parts() []api.Part {
	var out []api.Part
	for range r.count(len(r.left) / (width * partNumbers)) {
		out = append(out, api.Part{At: r.number(), Drop: r.number(), Take: r.number(), Up: r.number()})
	}
	return out
}
