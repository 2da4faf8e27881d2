package single

import (
	"math/rand"
	"slices"
	"testing"
)

// TestStore holds words that are kept against texts.
func TestStore(t *testing.T) {
	r := rand.New(rand.NewSource(1))
	s := newStore()
	words := []int{noWord}
	texts := map[int]string{noWord: ""}
	for range 3000 {
		// Mostly behind the last one, so that words get long.
		ahead := words[len(words)-1]
		if r.Intn(9) == 0 {
			ahead = words[r.Intn(len(words))]
		}
		text := []string{"", "x", "xx", "xy", "yxyxyx", "üx"}[r.Intn(6)]
		w := s.put(ahead, s.text([]rune(text)))
		if old, ok := texts[w]; ok && old != texts[ahead]+text {
			t.Fatalf("put: %q is %q", texts[ahead]+text, old)
		}
		words, texts[w] = append(words, w), texts[ahead]+text
		if s.put(ahead, s.text([]rune(text))) != w {
			t.Fatalf("put: %q stands twice", texts[w])
		}
		all := []rune(texts[w])
		if s.marks[w].size != len(all) {
			t.Fatalf("size: %d, not %d", s.marks[w].size, len(all))
		}
		from := r.Intn(len(all) + 1)
		to := from + r.Intn(len(all)-from+1)
		if got := s.cut(w, from, to); !slices.Equal(got, all[from:to]) {
			t.Fatalf("cut: %q, not %q", string(got), string(all[from:to]))
		}
		other := words[r.Intn(len(words))]
		more := []rune(texts[other])
		alike := 0
		for alike < min(len(all), len(more)) && all[len(all)-1-alike] == more[len(more)-1-alike] {
			alike++
		}
		for n := range min(len(all), len(more), alike+3) + 1 {
			if s.same(w, other, n) != (n <= alike) || s.same(other, w, n) != (n <= alike) {
				t.Fatalf("same, %d: not %v: %q, %q", n, n <= alike, texts[w], texts[other])
			}
		}
	}
}

// TestJumps counts how many jumps and steps lead to what stands far ahead.
func TestJumps(t *testing.T) {
	s := newStore()
	w := noWord
	const texts = 1 << 16
	for range texts {
		w = s.put(w, s.text([]rune("ab")))
	}
	for _, size := range []int{1, 2, texts / 3, texts, 2*texts - 77, 2 * texts} {
		n, at := 0, w
		for goal := s.within(w, size); at != goal; n++ {
			if jump := s.marks[at].jump; jump >= goal {
				at = jump
			} else {
				at = s.links.Items[at].ahead
			}
		}
		// As texts are all alike, words are numbered by how many they have.
		if n > 40 || at != (size+1)/2 {
			t.Errorf("to %d: %d jumps and steps, to %d", size, n, at)
		}
	}
}
