package node

import (
	"umlaut/api"
	"umlaut/span"
	"umlaut/word"
)

// key is a list of nodes, as it lies in memory.
type key struct {
	first *api.Recipe
	n     int
}

// verdict is what is told of a list of nodes, all of which are right.
type verdict struct {
	levels   int  // how many nodes lie over one another at most
	all, any bool // do all of them, does one relate the input without symbols to something?
}

// judge is the verdicts of lists: one that stands in many places is gone through once.
type judge map[key]verdict

// list tells whether all nodes of a list that is beneath so many others are right, and what is told of them.
func (j judge) list(l []api.Recipe, above int) (verdict, bool) {
	if len(l) == 0 {
		return verdict{all: true}, true
	}
	if above > api.MaxDepth {
		return verdict{}, false
	}
	k := key{&l[0], len(l)}
	if v, ok := j[k]; ok {
		return v, above+v.levels-1 <= api.MaxDepth
	}
	v := verdict{all: true}
	for _, n := range l {
		levels, null, ok := j.node(n, above)
		if !ok {
			return verdict{}, false
		}
		v.levels = max(v.levels, levels)
		v.all, v.any = v.all && null, v.any || null
	}
	j[k] = v
	return v, true
}

// node tells of a node that is beneath so many others how many lie over one another there, whether it relates the input without symbols to something, and whether it is right.
func (j judge) node(n api.Recipe, above int) (levels int, null, ok bool) {
	switch n.Kind {
	case api.KCopy:
		return 1, false, setRight(n.Set) && movedRight(n.Set, n.By)
	case api.KDrop:
		return 1, false, setRight(n.Set)
	case api.KPair:
		return 1, len(n.Read) == 0, word.Fits(api.Scalars, n.Read) && word.Fits(api.Scalars, n.Write)
	case api.KCat, api.KAlt, api.KMany:
		v, ok := j.list(n.L, above+1)
		null, fits := v.null(n.Kind)
		return v.levels + 1, null, ok && fits
	}
	return 0, false, false
}

// null tells whether a node of a kind, with such a list, relates the input without symbols to something, and whether the kind can have that list.
func (v verdict) null(kind int) (null, fits bool) {
	switch kind {
	case api.KCat:
		return v.all, true
	case api.KAlt:
		return v.any, true
	}
	return true, !v.all
}

// setRight tells whether a set is right.
func setRight(s []api.Span) bool {
	return 0 < len(s) && len(s) <= api.MaxSpans && span.Check(s) && span.Within(s, word.Domain(api.Scalars))
}

// movedRight tells whether a set that is right, moved, has scalars alone.
func movedRight(s []api.Span, by int) bool {
	return -api.MaxRune <= by && by <= api.MaxRune && span.Within(span.Move(s, by), word.Domain(api.Scalars))
}
