package bench

import (
	"strconv"
	"strings"

	"umlaut/api"
)

// What is answered.
const (
	done     = "ok"
	what     = "what"
	fault    = "fault"
	long     = "long"
	wrong    = "wrong"
	full     = "full"
	unknown  = "unknown"
	many     = "many"
	none     = "none"
	rejected = "reject"
	closed   = "closed"
)

// between stands between each two outputs.
const between = "; "

// tellVerdict tells a verdict.
func tellVerdict(kind int) string {
	switch kind {
	case api.VYes:
		return "yes"
	case api.VNo:
		return "no"
	case api.VLeft:
		return "left"
	}
	return "right"
}

// tellOutputs tells outputs.
func tellOutputs(l [][]rune) string {
	var out []string
	for _, w := range l {
		out = append(out, tellSymbols(w))
	}
	return strings.Join(out, between)
}

// tellSymbols tells symbols.
func tellSymbols(w []rune) string {
	if len(w) == 0 {
		return nothing
	}
	var out []byte
	for i, x := range w {
		if i > 0 {
			out = append(out, blank...)
		}
		out = strconv.AppendInt(out, int64(x), 1<<digitBits)
	}
	return string(out)
}

// tellBytes tells bytes.
func tellBytes(b []byte) string {
	if len(b) == 0 {
		return nothing
	}
	const digits = "0123456789abcdef"
	var out []byte
	for _, x := range b {
		out = append(out, digits[x>>digitBits], digits[x&(1<<digitBits-1)])
	}
	return string(out)
}
