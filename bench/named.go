package bench

import (
	"maps"
	"slices"
	"strconv"
	"strings"

	"umlaut/api"
	"umlaut/chain"
	"umlaut/epsilon"
	"umlaut/equal"
	"umlaut/look"
	"umlaut/node"
	"umlaut/recipe"
	"umlaut/run"
)

// How many names there are at most, and how many outputs are told.
const (
	mostNames   = 32
	mostOutputs = 64
)

// fewestPairs is how far two are held against each other, however few states they have: small ones are told of in full, and of others it ends soon.
const fewestPairs = 1 << 16

// let names what a recipe is made into.
func (b *Bench) let(name, text string) string {
	n, at, e := recipe.Parse(text)
	switch e {
	case api.ErrText:
		return fault + blank + strconv.Itoa(at)
	case api.ErrLong:
		return long
	}
	d, e := node.Compile(n)
	switch e {
	case api.ErrInvalid:
		return wrong
	case api.ErrLong:
		return long
	}
	return b.put(name, d)
}

// put names a description, if there is room for the name.
func (b *Bench) put(name string, d api.Desc) string {
	if _, ok := b.named[name]; !ok && len(b.named) == mostNames {
		return full
	}
	if b.named == nil {
		b.named = map[string]api.Desc{}
	}
	b.named[name] = d
	return done
}

// both is what two names name.
func (b *Bench) both(x, y string) (first, second api.Desc, ok bool) {
	first, ok = b.named[x]
	second, also := b.named[y]
	return first, second, ok && also
}

// together names what is made of two.
func (b *Bench) together(name, x, y string, made func(first, second api.Desc) (api.Desc, api.Errno)) string {
	first, second, ok := b.both(x, y)
	if !ok {
		return unknown
	}
	d, e := made(first, second)
	if e != api.OK {
		return long
	}
	return b.put(name, d)
}

// behind is the second one behind the first.
func behind(first, second api.Desc) (api.Desc, api.Errno) {
	first, e := epsilon.Free(first)
	if e != api.OK {
		return api.Desc{}, e
	}
	second, e = epsilon.Free(second)
	if e != api.OK {
		return api.Desc{}, e
	}
	// What look makes has only states that are come to; but as it may have more rules, it is asked only where there is need.
	crowded := first.States*second.States > api.MaxStates
	if crowded {
		first, e = look.Eliminate(first, api.MaxStates)
		if e != api.OK {
			return api.Desc{}, e
		}
	}
	if crowded || !chain.One(second) {
		second, e = look.Eliminate(second, api.MaxStates)
		if e != api.OK {
			return api.Desc{}, e
		}
	}
	return chain.Chain(first, second, api.MaxStates)
}

// run tells all that a name's description makes of an input.
func (b *Bench) run(name string, x []rune) string {
	d, ok := b.named[name]
	if !ok {
		return unknown
	}
	l, e := run.Outputs(d, x, mostOutputs)
	switch {
	case e == api.ErrLong:
		return long
	case e == api.ErrMany:
		return many
	case len(l) == 0:
		return none
	}
	return tellOutputs(l)
}

// equal tells whether what two names name relate the same.
func (b *Bench) equal(x, y string) string {
	first, second, ok := b.both(x, y)
	if !ok {
		return unknown
	}
	v, e := equal.Equal(first, second, budget(first, second))
	if e != api.OK {
		return long
	}
	return tellVerdict(v.Kind)
}

// budget is enough for all pairs of states of two, and of one of them; so only their pairs of sets of states may be too many.
func budget(first, second api.Desc) int {
	n := max(first.States, second.States)
	return max(n*n, fewestPairs)
}

// names tells the names.
func (b *Bench) names() string {
	if len(b.named) == 0 {
		return none
	}
	return strings.Join(slices.Sorted(maps.Keys(b.named)), blank)
}
