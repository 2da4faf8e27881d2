package shape_test

import (
	"fmt"
	"math/rand"
	"slices"
	"testing"

	"umlaut/api"
	"umlaut/shape"
	"umlaut/span"
)

const top = 0x10ffff

// at makes a part.
func at(at, drop, take, up int) api.Part {
	return api.Part{At: at, Drop: drop, Take: take, Up: up}
}

func TestNumbers(t *testing.T) {
	fine := api.Term{Base: top, Drop: 20, Take: 6, Up: 20, Sum: -top, Parts: []api.Part{at(0, 0, 6, 0), at(77, 0, 66, 1)}}
	if !shape.Numbers(fine) {
		t.Errorf("Numbers of %v", fine)
	}
	for i, change := range []func(*api.Term){
		func(x *api.Term) { x.Base++ }, func(x *api.Term) { x.Sum-- }, func(x *api.Term) { x.Drop++ }, func(x *api.Term) { x.Take++ },
		func(x *api.Term) { x.Take = 0 }, func(x *api.Term) { x.Up++ }, func(x *api.Term) { x.Parts[0].Up = 1 }, func(x *api.Term) { x.Parts[1].Up = -1 },
		func(x *api.Term) {
			x.Parts = []api.Part{at(0, 0, 6, 0), at(0, 0, 6, 1), at(0, 0, 6, 2), at(0, 0, 6, 3), at(0, 0, 6, 4)}
		},
	} {
		bad := fine
		bad.Parts = slices.Clone(fine.Parts)
		if change(&bad); shape.Numbers(bad) {
			t.Errorf("Numbers, %d: %v", i, bad)
		}
	}
	for _, x := range []int{0, top, -top} {
		if !shape.Small(x) {
			t.Errorf("Small(%d)", x)
		}
	}
	if shape.Small(top+1) || shape.Small(-top-1) {
		t.Error("Small")
	}
}

func TestParts(t *testing.T) {
	x := api.Term{Base: 1, Drop: 2, Take: 3, Up: 4, Sum: 5, Parts: []api.Part{at(0, 0, 6, 6), at(2, 1, 6, 3)}}
	if !shape.Parts(x, 3) || shape.Parts(x, 2) || shape.Parts(x, 0) || !shape.Parts(api.Term{}, 0) {
		t.Error("Parts")
	}
	x.Parts[0].Take = 7
	if shape.Parts(x, 3) {
		t.Error("Parts: a part's bits aren't right")
	}
	if p := shape.Outer(x); p != at(0, 2, 3, 4) {
		t.Errorf("Outer: %v", p)
	}
	if s := shape.Symbols(); len(s) != 1 || s[0] != (api.Span{Lo: 0, Hi: top}) {
		t.Errorf("Symbols: %v", s)
	}
}

func TestPlaces(t *testing.T) {
	parts := []api.Part{at(2, 0, 6, 0), at(0, 0, 6, 3), at(2, 3, 6, 6), at(1, 0, 6, 7)}
	if l := shape.Places(parts); len(l) != 3 || !slices.Equal(l[0], parts[1:2]) || !slices.Equal(l[1], parts[3:]) || !slices.Equal(l[2], []api.Part{parts[0], parts[2]}) {
		t.Errorf("Places: %v", l)
	}
	if l := shape.Order(parts); !slices.Equal(l, []int{1, 2, 0}) {
		t.Errorf("Order: %v", l)
	}
	if len(shape.Places(nil)) != 0 || len(shape.Order(nil)) != 0 {
		t.Error("there are places of no parts")
	}
	for _, x := range []int{0, 1, 7, 0x41, 0x1ff, top} {
		if got, want := shape.Total([]api.Part{parts[0], parts[2]}, x), x%64+x>>3%64<<6; got != want {
			t.Errorf("Total of %x: %x, not %x", x, got, want)
		}
	}
}

// set is a plain list of so many numbers, at most, below a bound.
func set(r *rand.Rand, n, below int) []api.Span {
	var l []api.Span
	for range n {
		x := r.Intn(below)
		l = append(l, api.Span{Lo: x, Hi: x})
	}
	return span.Norm(l)
}

// Of many spans, too, sums are those that are told number by number.
func TestSums(t *testing.T) {
	r := rand.New(rand.NewSource(4))
	for _, n := range []int{1, 2, 9, 50, 400} {
		a, b := set(r, n, 20*n), set(r, n, 30*n)
		var want []api.Span
		for x := range span.Each(a) {
			want = span.Union(want, span.Move(b, x))
		}
		if got := shape.Sums(a, b); fmt.Sprint(got) != fmt.Sprint(want) {
			t.Errorf("Sums(%v, %v): %v", a, b, got)
		}
	}
	if len(shape.Sums(nil, []api.Span{{Lo: 1, Hi: 2}})) != 0 || len(shape.Sums([]api.Span{{Lo: 1, Hi: 2}}, nil)) != 0 {
		t.Error("there are sums of nothing")
	}
}
