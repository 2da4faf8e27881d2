// Package hex is hex digits, for the layers that read them.
package hex

// Value is a hex digit's value, and true; 0 and false of any other symbol.
func Value(x rune) (rune, bool) {
	switch {
	case '0' <= x && x <= '9':
		return x - '0', true
	case 'a' <= x && x <= 'f':
		return x - 'a' + 10, true
	case 'A' <= x && x <= 'F':
		return x - 'A' + 10, true
	}
	return 0, false
}
