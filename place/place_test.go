package place_test

import (
	"fmt"
	"slices"
	"testing"

	"umlaut/api"
	"umlaut/bitset"
	"umlaut/minterm"
	"umlaut/place"
	"umlaut/word"
)

// held is a word of blocks.
func held(blocks ...int) place.Word {
	var w place.Word
	for _, b := range blocks {
		w = w.With(b)
	}
	return w
}

// sets is a set of each text's symbols, as numbers from that of a on.
func sets(l ...string) []bitset.Set {
	var out []bitset.Set
	for _, s := range l {
		x := bitset.New(9)
		for _, r := range s {
			x.Put(int(r - 'a'))
		}
		out = append(out, x)
	}
	return out
}

func TestWords(t *testing.T) {
	if w := held(3, 1, 2, 4); w.Last(3) != held(1, 2, 4) || w.Last(0) != held() || w.Last(4) != w {
		t.Errorf("Last: %v", w.Last(3))
	}
	if (place.Place{State: 1, Word: held(3, 1).Last(1)}) != (place.Place{State: 1, Word: held(1)}) {
		t.Error("the same place is not equal")
	}
	for _, c := range []struct {
		w    place.Word
		l    []bitset.Set
		want bool
	}{
		{held(), nil, true},
		{held(1), nil, true},
		{held(), sets("a"), true},
		{held(1), sets("ab"), true},
		{held(1), sets("ac"), false},
		{held(1, 0), sets("ab"), true},
		{held(1, 0), sets("b", "b"), false},
		{held(1, 0), sets("b", "a", ""), true},
	} {
		if c.w.In(c.l) != c.want {
			t.Errorf("%v in %v: %v", c.w, c.l, !c.want)
		}
		if f := (place.Final{Have: c.l}); f.Ends(c.w) != (c.want && c.w.N == len(c.l)) {
			t.Errorf("%v ends at %v: %v", c.l, c.w, f.Ends(c.w))
		}
	}
}

func TestMachine(t *testing.T) {
	set := func(lo, hi int) []api.Span { return []api.Span{{Lo: lo, Hi: hi}} }
	d := api.Desc{In: api.Bytes, Out: api.Bytes, States: 3, Rules: []api.Rule{
		{From: 1, To: 2, Guards: [][]api.Span{set('a', 'c'), set('c', 'd')}, Eat: 1},
		{From: 0, To: 1, Guards: [][]api.Span{{{Lo: 0, Hi: 'a' - 1}, {Lo: 'd', Hi: 255}}}, Eat: 1},
		{From: 1, To: 0, Guards: [][]api.Span{set('d', 'd')}, Eat: 1},
	}, Finals: []api.Final{{From: 1}, {From: 0, Guards: [][]api.Span{set('c', 'c')}}, {From: 1, Guards: [][]api.Span{set('d', 'd')}}}}
	if l := place.Guards(d); len(l) != 6 || fmt.Sprint(l[1], l[5]) != "[{99 100}] [{100 100}]" {
		t.Errorf("Guards: %v", l)
	}
	blocks, _ := minterm.Split(word.Domain(api.Bytes), place.Guards(d))
	// All but a to d; a and b; c; d.
	m := place.NewMachine(d, blocks)
	if fmt.Sprint(m.Least) != "[0 97 99 100]" || fmt.Sprint(slices.Collect(m.Every.Each())) != "[0 1 2 3]" || fmt.Sprint(m.Blocks) != fmt.Sprint(blocks) {
		t.Errorf("NewMachine: %v, %v", m.Least, m.Every)
	}
	var got []string
	tell := func(state, number int, have []bitset.Set) {
		s := fmt.Sprint(state, number)
		for _, x := range have {
			s += fmt.Sprint(slices.Collect(x.Each()))
		}
		got = append(got, s)
	}
	for q := range m.Rules {
		for _, r := range m.Rules[q] {
			tell(q, r.Number, r.Have)
		}
		for _, f := range m.Finals[q] {
			tell(q, f.Number, f.Have)
		}
	}
	if want := []string{"0 1[0 3]", "0 1[2]", "1 0[1 2][2 3]", "1 2[3]", "1 0", "1 2[3]"}; !slices.Equal(got, want) {
		t.Errorf("NewMachine: %q", got)
	}
}
