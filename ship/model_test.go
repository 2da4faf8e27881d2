package ship_test

import (
	"fmt"
	"math/rand"
	"regexp"
	"strconv"
	"strings"
	"unicode/utf8"
)

// model is what each kind makes of bytes, by the words of chapters 10 and 23.
type model struct {
	html *strings.Replacer
	hex  *regexp.Regexp
}

// newModel is the model.
func newModel() model {
	return model{
		html: strings.NewReplacer("&", "&amp;", "<", "&lt;", ">", "&gt;", "\"", "&quot;", "'", "&#39;"),
		hex:  regexp.MustCompile("%[0-9A-Fa-f]{2}"),
	}
}

// makes is what a kind makes of bytes; false, if it is nothing.
func (m model) makes(kind int, b []byte) (string, bool) {
	switch kind {
	case 1:
		if !utf8.Valid(b) {
			return "", false
		}
		return m.html.Replace(string(b)), true
	case 2:
		return m.html.Replace(repaired(b)), true
	case 3:
		return percented(b), true
	case 4:
		return m.back(b), true
	}
	return "", false
}

// repaired is bytes with FFFD for each part: a part goes on as long as more bytes could still make it valid.
func repaired(b []byte) string {
	var out strings.Builder
	for len(b) > 0 {
		x, n := utf8.DecodeRune(b)
		if x == utf8.RuneError && n == 1 {
			for n < len(b) && !utf8.FullRune(b[:n+1]) {
				n++
			}
		}
		out.WriteRune(x)
		b = b[n:]
	}
	return out.String()
}

// percented is bytes of which all that aren't unreserved stand as a sign and two digits.
func percented(b []byte) string {
	const free = "ABCDEFGHIJKLMNOPQRSTUVWXYZabcdefghijklmnopqrstuvwxyz0123456789-._~"
	var out strings.Builder
	for _, x := range b {
		if strings.IndexByte(free, x) >= 0 {
			out.WriteByte(x)
		} else {
			fmt.Fprintf(&out, "%%%02X", x)
		}
	}
	return out.String()
}

// back is bytes turned back.
func (m model) back(b []byte) string {
	return m.hex.ReplaceAllStringFunc(string(b), func(s string) string {
		x, _ := strconv.ParseUint(s[1:], 16, 8)
		return string([]byte{byte(x)})
	})
}

// harmless tells whether a text has none of the symbols that do harm, but for each & that begins what stands for one.
func harmless(s string) bool {
	for _, name := range []string{"&amp;", "&lt;", "&gt;", "&quot;", "&#39;"} {
		s = strings.ReplaceAll(s, name, "")
	}
	return !strings.ContainsAny(s, "&<>\"'")
}

// random makes bytes.
type random struct{ *rand.Rand }

// pieces is what bytes are put together of, so that edges of sequences, of what does harm and of hex digits come often.
func pieces() []string {
	return []string{
		"&", "<", ">", "\"", "'", "&amp;", "&#39", "%", "%", "%%", "%41", "%4", "%zz", "%c3%bc", "%C3", "%2f", "%0", "0", "9", "a", "f", "A", "F", "g", "/", ":", "@", "`", " ", "~", "-._", "\x00", "\x7f",
		"ü", "\u0080", "\u07ff", "\u0800", "€", "\ud7ff", "\ue000", "\ufffd", "\uffff", "\U00010000", "\U0001f600", "\U0010ffff",
		"\x80", "\xbf", "\xc0", "\xc1", "\xc2", "\xc3", "\xdf", "\xe0", "\xe0\x9f", "\xe0\xa0", "\xe1", "\xe2\x82", "\xed", "\xed\x9f", "\xed\xa0", "\xef\xbf",
		"\xf0", "\xf0\x8f", "\xf0\x90", "\xf0\x90\x80", "\xf1\x80\x80", "\xf4\x8f", "\xf4\x90", "\xf4\x8f\xbf", "\xf5", "\xff",
	}
}

// bytes is any bytes: of no kind, or put together of pieces, or of valid pieces.
func (r random) bytes(most int) []byte {
	b := make([]byte, r.Intn(most))
	r.Read(b)
	if r.Intn(4) == 0 {
		return b
	}
	l := pieces()
	valid := r.Intn(2) == 0
	var out []byte
	for len(out) < len(b) {
		if s := l[r.Intn(len(l))]; !valid || utf8.ValidString(s) {
			out = append(out, s...)
		}
	}
	return out
}
