package escape

import (
	"umlaut/api"
	"umlaut/span"
	"umlaut/term"
)

// harmful is the symbols that Html doesn't write as they are.
const harmful = "&<>\"'"

// Esc is what is written of a symbol.
func Esc(x rune) []rune {
	var out []rune
	for _, y := range name(x) {
		out = append(out, y)
	}
	if len(out) == 0 {
		out = append(out, x)
	}
	return out
}

// name is what stands for a harmful symbol; nothing stands for others.
func name(x rune) string {
	switch x {
	case '&':
		return "&amp;"
	case '<':
		return "&lt;"
	case '>':
		return "&gt;"
	case '"':
		return "&quot;"
	case '\'':
		return "&#39;"
	}
	return ""
}

// Html escapes scalars.
func Html() api.Desc {
	d := single(api.Scalars)
	var some []api.Span
	for _, x := range harmful {
		some = span.Union(some, only(x))
		d.Rules = append(d.Rules, eats(1, window(only(x)), consts(Esc(x))...))
	}
	d.Rules = append(d.Rules, eats(1, window(not(api.Scalars, some)), same(0)))
	return d
}

// consts is the terms that write a word.
func consts(w []rune) []api.Term {
	var out []api.Term
	for _, x := range w {
		out = append(out, term.Const(x))
	}
	return out
}
