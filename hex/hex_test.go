package hex_test

import (
	"strings"
	"testing"

	"umlaut/hex"
)

func TestValue(t *testing.T) {
	for x := rune(-300); x < 70000; x++ {
		want := max(strings.IndexRune("0123456789abcdef", x), strings.IndexRune("0123456789ABCDEF", x))
		if x < 0 {
			want = -1
		}
		if got, ok := hex.Value(x); ok != (want >= 0) || int(got) != max(want, 0) {
			t.Errorf("Value(%x): %d, %v", x, got, ok)
		}
	}
}
