package single_test

import (
	"fmt"
	"math"
	"math/rand"
	"slices"
	"strings"
	"testing"

	"umlaut/api"
	"umlaut/single"
	"umlaut/term"
)

// verdict asks Agree of two that may be asked of, with any budget.
func verdict(t *testing.T, a, b api.Desc) api.Verdict {
	t.Helper()
	v, e := single.Agree(a, b, math.MaxInt)
	if e != api.OK {
		t.Fatalf("Agree: %d: %s", e, brief(a, b))
	}
	return v
}

// texts is n texts of as many symbols as a rule may write, all of them unlike.
func texts(n int) []string {
	r := rand.New(rand.NewSource(1))
	out := make([]string, n)
	for i := range out {
		out[i] = fmt.Sprintf("%05d", i)
		for len(out[i]) < api.MaxOut {
			out[i] += string(rune('a' + r.Intn(26)))
		}
	}
	return out
}

// row is states one behind the other, from each of which a leads to the next one, and writes its text, if it has one.
func row(states int, texts []string) api.Desc {
	d := from(nil, ends(states-1, ""))
	for i := range states - 1 {
		x := eats(i, i+1, "a", "")
		if i < len(texts) {
			x.Out = consts(texts[i])
		}
		d.Rules = append(d.Rules, x)
	}
	return d
}

// looped is a description of which each state, with a or b, may stay, and write.
func looped(d api.Desc, out ...api.Term) api.Desc {
	d.Rules = slices.Clone(d.Rules)
	for q := range d.States {
		d.Rules = append(d.Rules, reads(q, q, only("ab"), out...))
	}
	return d
}

// P21.1: leads of very many symbols.
func TestLongLeads(t *testing.T) {
	l := texts(511)
	early := row(1024, l)
	late := row(1024, slices.Concat(make([]string, 512), l))
	if v := verdict(t, early, late); v.Kind != api.VYes {
		t.Errorf("Agree: %d, %d symbols", v.Kind, len(v.X))
	}
	all := strings.Join(l, "")
	for _, c := range []struct {
		at   int
		text string
	}{{1022, l[510][:63]}, {1022, l[510][:63] + "!"}, {512, "!" + l[0][1:]}, {700, l[188][1:]}} {
		other := row(1024, slices.Concat(make([]string, 512), l))
		other.Rules[c.at].Out = consts(c.text)
		v := verdict(t, other, early)
		if v.Kind != api.VNo || string(v.X) != strings.Repeat("a", 1023) || string(v.Z) != all || string(v.Y) != strings.Replace(all, l[c.at-512], c.text, 1) {
			t.Errorf("Agree: %d, %d symbols to %d and %d", v.Kind, len(v.X), len(v.Y), len(v.Z))
		}
	}
	// Ever longer ones, till a pair comes again.
	more, none := from([]api.Rule{eats(0, 0, "a", all[:64]), eats(0, 1, "b", "")}, ends(1, "")), from([]api.Rule{eats(0, 0, "a", ""), eats(0, 1, "b", "")}, ends(1, ""))
	wantNo(t, "ever longer", more, none, "ab")
}

// P21.1: as many pairs as there may be, and a lead at nearly all of them.
func TestManyPairs(t *testing.T) {
	for i, l := range [][]string{slices.Repeat([]string{strings.Repeat("x", 64)}, 1023), texts(299)} {
		n := len(l)
		a, b := looped(row(n+1, l)), looped(row(n+1, l))
		if v := verdict(t, a, b); v.Kind != api.VYes {
			t.Errorf("Agree: %d, %d symbols", v.Kind, len(v.X))
		}
		if i == 0 {
			continue
		}
		b.Rules[n-1].Out = consts(l[n-1][1:])
		v := verdict(t, a, b)
		if v.Kind != api.VNo || len(v.X) > 2*n || len(v.Y) != n*64 || len(v.Z) != n*64-1 {
			t.Errorf("Agree: %d, %d symbols to %d and %d", v.Kind, len(v.X), len(v.Y), len(v.Z))
		}
	}
	// What both write at every symbol, and is a period of every lead.
	xs := slices.Repeat([]string{strings.Repeat("x", 5)}, 99)
	if v := verdict(t, looped(row(100, xs), term.Const('x')), looped(row(100, xs), term.Const('x'))); v.Kind != api.VYes {
		t.Errorf("Agree: %d, %d symbols", v.Kind, len(v.X))
	}
}

// circle is states one behind the other, the first one behind the last, each of which reads all symbols, by some rules, and writes the same.
func circle(states, rules int, out ...api.Term) api.Desc {
	d := from(nil, ends(0, ""))
	d.States = states
	for q := range states {
		for k := range rules {
			d.Rules = append(d.Rules, reads(q, (q+1)%states, set(k*256/rules, (k+1)*256/rules-1), out...))
		}
	}
	return d
}

// P21.1: circles of which all pairs come, one behind the other.
func TestCircles(t *testing.T) {
	both := api.Term{Take: 21, Parts: []api.Part{{Take: 4}, {Drop: 4, Take: 4, Up: 4}}}
	if v := verdict(t, circle(1024, 4, term.Copy(0, 0)), circle(1023, 4, both)); v.Kind != api.VYes {
		t.Errorf("Agree: %d, %d symbols", v.Kind, len(v.X))
	}
	if v := verdict(t, circle(1024, 1, term.Const('x')), circle(1023, 1, term.Copy(0, 0))); v.Kind != api.VNo || len(v.X) != 1024*1023 || len(v.Y) != 1024*1023 || slices.Equal(v.Y, v.Z) {
		t.Errorf("Agree: %d, %d symbols to %d and %d", v.Kind, len(v.X), len(v.Y), len(v.Z))
	}
	// Apart only where both may end: all behind the first symbols is the same, but for the last one.
	a, b := circle(64, 1, term.Const('x')), circle(63, 1, term.Const('x'))
	b.Finals = []api.Final{ends(0, "y")}
	v := verdict(t, a, b)
	if v.Kind != api.VNo || len(v.X) > 0 || string(v.Y) != "" || string(v.Z) != "y" {
		t.Errorf("Agree: %v", v)
	}
	a.Finals, b.Finals = []api.Final{ends(63, "")}, []api.Final{ends(62, "y")}
	if v := verdict(t, a, b); v.Kind != api.VNo || len(v.X) != 64*63-1 || string(v.Y)+"y" != string(v.Z) {
		t.Errorf("Agree: %d, %d symbols", v.Kind, len(v.X))
	}
}

// P21.1: as many rules of one state, and of one pair, as there may be.
func TestManyRules(t *testing.T) {
	var wide []api.Span
	for i := range api.MaxSpans {
		wide = append(wide, api.Span{Lo: 4 * i, Hi: 4*i + 1})
	}
	both := api.Term{Take: 21, Parts: []api.Part{{Take: 4}, {Drop: 4, Take: 4, Up: 4}}}
	one, other := from(nil, ends(0, "")), from(nil, ends(0, ""))
	for range api.MaxRules {
		one.Rules = append(one.Rules, reads(0, 0, set(0, 255), slices.Repeat([]api.Term{term.Copy(0, 0)}, 9)...))
		other.Rules = append(other.Rules, reads(0, 0, wide, slices.Repeat([]api.Term{both}, 9)...))
	}
	if v := verdict(t, one, other); v.Kind != api.VYes {
		t.Errorf("Agree: %v", v)
	}
	other.Rules[api.MaxRules-1].Out[8] = term.Const('0')
	if v := verdict(t, one, other); v.Kind != api.VNo || len(v.X) != 1 || v.X[0] == '0' {
		t.Errorf("Agree: %v", v)
	}
	// From each state to any ones.
	r := rand.New(rand.NewSource(1))
	any := func() api.Desc {
		d := from(nil, ends(0, ""))
		d.States = api.MaxStates
		for i := range api.MaxRules {
			d.Rules = append(d.Rules, reads(i%d.States, r.Intn(d.States), set(0, 255), term.Copy(0, 0)))
		}
		return d
	}
	if v := verdict(t, any(), any()); v.Kind != api.VYes {
		t.Errorf("Agree: %d, %d symbols", v.Kind, len(v.X))
	}
	// As many finals.
	for range api.MaxRules - 1 {
		one.Finals, other.Finals = append(one.Finals, ends(0, "")), append(other.Finals, ends(0, ""))
	}
	one.Rules, other.Rules = nil, nil
	if v := verdict(t, one, other); v.Kind != api.VYes {
		t.Errorf("Agree: %v", v)
	}
}

// roomy is a list with room behind it, in which something stands.
func roomy[T any](l []T, behind T) []T {
	return append(l[:len(l):len(l)], behind, behind)[:len(l)]
}

// whole is a description as a text, with what lies in its lists' room.
func whole(d api.Desc) string {
	out := fmt.Sprint(d.In, d.Out, d.States, d.Start, d.Rules[:cap(d.Rules)], d.Finals[:cap(d.Finals)])
	for _, r := range d.Rules {
		out += fmt.Sprint(r.Guards[:cap(r.Guards)], r.Out[:cap(r.Out)])
		for _, g := range r.Guards {
			out += fmt.Sprint(g[:cap(g)])
		}
		for _, x := range r.Out {
			out += fmt.Sprint(x.Parts[:cap(x.Parts)])
		}
	}
	for _, f := range d.Finals {
		out += fmt.Sprint(f.Out[:cap(f.Out)])
	}
	return out
}

// Rule 4: what is handed in isn't changed, its spare room neither, and what is answered is new memory, of which no two lists share any.
func TestMemory(t *testing.T) {
	d := from([]api.Rule{
		reads(0, 1, only("ab"), term.Copy(0, 0), term.Const('x')),
		reads(0, 1, only("bc"), term.Copy(0, 0), term.Const('x')),
		reads(1, 1, only("a"), term.Const('y')),
	}, ends(1, "end"), ends(1, "and"))
	for i, r := range d.Rules {
		r.Guards[0] = roomy(r.Guards[0], api.Span{Lo: 66})
		for k := range r.Out {
			r.Out[k].Parts = roomy(r.Out[k].Parts, api.Part{At: 66})
		}
		d.Rules[i].Guards, d.Rules[i].Out = roomy(r.Guards, set(67, 67)), roomy(r.Out, api.Term{Sum: 66})
	}
	for i, f := range d.Finals {
		d.Finals[i].Out = roomy(f.Out, api.Term{Sum: 67})
	}
	d.Rules, d.Finals = roomy(d.Rules, api.Rule{From: 66}), roomy(d.Finals, api.Final{From: 66})
	was := whole(d)
	v := itself(t, d)
	want := fmt.Sprint(v)
	if v.Kind != api.VLeft || len(v.Y) != 5 || len(v.Z) != 5 {
		t.Fatalf("Single: %v", v)
	}
	for _, l := range []*[]rune{&v.X, &v.Y, &v.Z} {
		room := (*l)[:cap(*l)]
		for i := range room {
			room[i] = -7
		}
		*l = nil
		again := itself(t, d)
		if fmt.Sprint(again) != want || len(v.Y) > 0 && !slices.Equal(v.Y, again.Y) || len(v.Z) > 0 && !slices.Equal(v.Z, again.Z) {
			t.Errorf("Single: %v, and then %v", v, again)
		}
	}
	if whole(d) != was {
		t.Error("what was handed in is changed")
	}
}
