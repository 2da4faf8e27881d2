package roll_test

import (
	"slices"
	"testing"

	"umlaut/roll"
)

func TestPut(t *testing.T) {
	r := roll.Of("b", "a", "b")
	for _, c := range []struct {
		x    string
		want int
	}{{"b", 0}, {"a", 1}, {"", 2}, {"c", 3}, {"", 2}, {"b", 0}} {
		if n := r.Put(c.x); n != c.want {
			t.Errorf("Put(%q): %d, not %d", c.x, n, c.want)
		}
	}
	if want := []string{"b", "a", "", "c"}; !slices.Equal(r.Items, want) {
		t.Errorf("Items: %q", r.Items)
	}
}

func TestNone(t *testing.T) {
	r := roll.Of[int]()
	if len(r.Items) > 0 || r.Put(7) != 0 || r.Put(7) != 0 || !slices.Equal(r.Items, []int{7}) {
		t.Errorf("Items: %v", r.Items)
	}
}
