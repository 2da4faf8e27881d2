package table

import (
	"umlaut/api"
	"umlaut/bitset"
	"umlaut/fresh"
	"umlaut/place"
	"umlaut/roll"
)

// none stands for no node, act or end.
const none = -1

// firstAct stands for act 0 in a node's Next; those of the further acts are below it.
const firstAct = -2

// layout is the table that is made of a sole description, with its places, rules and finals as they come.
type layout struct {
	*place.Machine
	nodes      *roll.Roll[place.Place]
	acts, ends *roll.Roll[int] // the numbers of rules, and of finals
	out        api.Table
}

// newLayout is a layout that has the start's place alone.
func newLayout(d api.Desc, blocks [][]api.Span) *layout {
	return &layout{
		Machine: place.NewMachine(d, blocks),
		nodes:   roll.Of(place.Place{State: d.Start}),
		acts:    roll.Of[int](),
		ends:    roll.Of[int](),
	}
}

// lay lays the nodes of all places; false, if there are too many.
func (l *layout) lay() bool {
	for i := 0; i < len(l.nodes.Items); i++ {
		l.layNode(l.nodes.Items[i])
		if len(l.nodes.Items) > api.MaxNodes {
			return false
		}
	}
	return true
}

// layNode lays a place's node, and numbers what that tells of.
func (l *layout) layNode(p place.Place) {
	n := api.Node{Held: p.N, Next: make([]int, len(l.Blocks)), End: l.end(p)}
	taken, on := l.taken(p), l.on(p)
	for c := range n.Next {
		switch {
		case taken[c] != nil:
			n.Next[c] = firstAct - l.act(*taken[c])
		case on.Has(c):
			n.Next[c] = l.nodes.Put(place.Place{State: p.State, Word: p.With(c)})
		default:
			n.Next[c] = none
		}
	}
	l.out.Nodes = append(l.out.Nodes, n)
}

// taken is, of each class, the rule that is taken when it is read at a place; nil, if there is none.
func (l *layout) taken(p place.Place) []*place.Rule {
	out := make([]*place.Rule, len(l.Blocks))
	for i := range l.Rules[p.State] {
		r := &l.Rules[p.State][i]
		if len(r.Have) != p.N+1 || !p.In(r.Have) {
			continue
		}
		// Two such rules would clash: so no class is told of twice.
		for c := range r.Have[p.N].Each() {
			out[c] = r
		}
	}
	return out
}

// on is the classes with which a place, when they are read there, goes on.
func (l *layout) on(p place.Place) bitset.Set {
	out := bitset.New(len(l.Blocks))
	for _, r := range l.Rules[p.State] {
		if len(r.Have) > p.N+1 && p.In(r.Have) {
			out.Lay(l.Every, r.Have[p.N])
		}
	}
	for _, f := range l.Finals[p.State] {
		if len(f.Have) > p.N && p.In(f.Have) {
			out.Lay(l.Every, f.Have[p.N])
		}
	}
	return out
}

// act is the number of a rule's act, which is laid, if it is new.
func (l *layout) act(r place.Rule) int {
	k := l.acts.Put(r.Number)
	if k == len(l.out.Acts) {
		to := l.nodes.Put(place.Place{State: r.To})
		l.out.Acts = append(l.out.Acts, api.Act{Eat: r.Eat, To: to, Out: fresh.Terms(r.Out)})
	}
	return k
}

// end is the number of a place's end, which is laid, if it is new; none, if it has none.
func (l *layout) end(p place.Place) int {
	for _, f := range l.Finals[p.State] {
		if !f.Ends(p.Word) {
			continue
		}
		k := l.ends.Put(f.Number)
		if k == len(l.out.Ends) {
			l.out.Ends = append(l.out.Ends, fresh.Terms(f.Out))
		}
		// Another such final would clash.
		return k
	}
	return none
}
