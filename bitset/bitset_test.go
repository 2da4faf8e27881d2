package bitset_test

import (
	"math/rand"
	"slices"
	"testing"

	"umlaut/bitset"
)

// model is a set as numbers that it has.
type model map[int]bool

// want asks a set of all its room's numbers, and of some beyond.
func want(t *testing.T, what string, s bitset.Set, m model, n int) {
	t.Helper()
	var rising []int
	for x := range n + 200 {
		if s.Has(x) != m[x] {
			t.Fatalf("%s: %d: %v", what, x, s.Has(x))
		}
		if m[x] {
			rising = append(rising, x)
		}
	}
	if got := slices.Collect(s.Each()); !slices.Equal(got, rising) {
		t.Fatalf("%s: %v, not %v", what, got, rising)
	}
}

func TestSets(t *testing.T) {
	r := rand.New(rand.NewSource(1))
	random := func(n int) (bitset.Set, model) {
		s, m := bitset.New(n), model{}
		for range r.Intn(2*n + 1) {
			x := r.Intn(n)
			if r.Intn(4) > 0 {
				s.Put(x)
				m[x] = true
			} else {
				s.Take(x)
				delete(m, x)
			}
		}
		return s, m
	}
	for _, n := range []int{1, 2, 63, 64, 65, 128, 200} {
		for range 50 {
			s, m := random(n)
			want(t, "Put and Take", s, m, n)
			a, am := random(n)
			b, bm := random(n)
			s.Lay(a, b)
			for x := range n {
				m[x] = m[x] || am[x] && bm[x]
			}
			want(t, "Lay", s, m, n)
			s.Keep(a)
			for x := range n {
				m[x] = m[x] && am[x]
			}
			want(t, "Keep", s, m, n)
			s.Lay(nil, b)
			s.Lay(b, nil)
			want(t, "Lay of nothing", s, m, n)
			want(t, "a set that was read", b, bm, n)
		}
	}
	want(t, "no room", bitset.New(0), nil, 0)
	want(t, "nil", nil, nil, 0)
}

func TestStop(t *testing.T) {
	s := bitset.New(130)
	s.Put(3)
	s.Put(129)
	for x := range s.Each() {
		if x != 3 {
			t.Errorf("behind the end: %d", x)
		}
		break
	}
}
