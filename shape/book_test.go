package shape_test

import (
	"fmt"
	"testing"

	"umlaut/api"
	"umlaut/shape"
)

func TestBook(t *testing.T) {
	b := shape.NewBook()
	first := api.Term{Base: 1, Drop: 2, Take: 3, Up: 4, Sum: 5, Parts: []api.Part{at(1, 2, 3, 4), at(5, 6, 7, 8)}}
	list := []api.Term{first, {}}
	for i, change := range []func(*api.Term){
		func(x *api.Term) { x.Base++ }, func(x *api.Term) { x.Drop++ }, func(x *api.Term) { x.Take++ }, func(x *api.Term) { x.Up++ }, func(x *api.Term) { x.Sum-- },
		func(x *api.Term) { x.Parts = nil }, func(x *api.Term) { x.Parts = x.Parts[:1] }, func(x *api.Term) { x.Parts = append(x.Parts, api.Part{}) },
		func(x *api.Term) { x.Parts = []api.Part{x.Parts[0], at(5, 6, 7, 9)} }, func(x *api.Term) { x.Parts = []api.Part{at(2, 2, 3, 4), x.Parts[1]} },
	} {
		x := first
		change(&x)
		if fmt.Sprint(x) == fmt.Sprint(first) {
			t.Fatalf("change %d changes nothing", i)
		}
		list = append(list, x)
	}
	for range 2 {
		for i, x := range list {
			if n := b.Put(x); n != i {
				t.Errorf("Put(%v): %d, not %d", x, n, i)
			}
		}
	}
	if n := b.Put(api.Term{Parts: []api.Part{}}); n != 1 {
		t.Errorf("Put of no parts: %d", n)
	}
	if fmt.Sprint(b.Terms) != fmt.Sprint(list) {
		t.Errorf("Terms: %v", b.Terms)
	}
}
