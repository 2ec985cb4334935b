package effectus_test

import (
	"fmt"
	"math/rand"
	"slices"
	"strings"

	"effectus/lexer"
)

// maker makes texts of programs that mostly have types, by the kinds of what is asked for. What may be done somewhere is a text of
// operations: "ab" is a and b.
type maker struct {
	*rand.Rand
	sight []named
}

// kind is that of a value: i a number, b a truth value, l a list of numbers, p a pair of them, f a function of numbers (does says
// what its calls do).
type kind struct {
	of   byte
	does string
}

// named is a name in sight.
type named struct {
	name string
	kind
}

var aNumber = kind{of: 'i'}

func newMaker(seed int64) *maker { return &maker{Rand: rand.New(rand.NewSource(seed))} }

// text is a program with expressions of a depth, in which only the operations are declared that it asks for.
func (m *maker) text(depth int) string {
	text := ""
	for i := range m.Intn(depth) {
		f := named{string(rune('f' + i)), kind{'f', m.oneOf("", "", "a", "b", "c", "ab", "abcd")}}
		text += "def " + m.binding(f, depth-1) + " "
		m.sight = append(m.sight, f)
	}
	return squeezed(declared(text + "main = " + m.handler(kind{of: "iiilpbf"[m.Intn(7)]}, depth, "")))
}

// declared is a text with the operations ahead of it that it asks for.
func declared(text string) string {
	ops := ""
	for i, op := range []string{"op once a : int => int ", "op many b : int => int ", "op many c : unit => bool ", "op once d : int => unit "} {
		name := "abcd"[i : i+1]
		if strings.Contains(text, "do "+name) || strings.Contains(text, "| "+name) {
			ops += op
		}
	}
	return ops + text
}

// squeezed is a text without the blanks that it can do without.
func squeezed(text string) string {
	tokens, _ := lexer.Tokens(text)
	short, last := "", ""
	for i, token := range tokens[:max(0, len(tokens)-1)] {
		own := strings.TrimSpace(text[token.At:tokens[i+1].At])
		if both, _ := lexer.Tokens(last + own); last != "" && len(both) < 3 {
			short += " "
		}
		short += own
		last = own
	}
	return short
}

func (m *maker) oneOf(choices ...string) string { return choices[m.Intn(len(choices))] }

func (m *maker) name() string { return m.oneOf("x", "y", "z") }

// binding is what stands behind the word of a def or a let, up to its function's body; some go round some times.
func (m *maker) binding(f named, depth int) string {
	x := named{m.name(), aNumber}
	if m.Intn(2) == 0 {
		return fmt.Sprintf("%s %s = %s", f.name, x.name, m.under(aNumber, depth, f.does, x))
	}
	again := fmt.Sprintf("%s (%s - 1)", f.name, x.name)
	return fmt.Sprintf("rec %s %s = if %s < 1 then %s else %s", f.name, x.name, x.name, m.under(aNumber, depth-1, f.does, x),
		m.oneOf(again, again+" + "+m.under(aNumber, depth-1, f.does, x), m.under(aNumber, depth-1, f.does, x)+" + "+again, "("+m.under(aNumber, depth-1, f.does, x)+"; "+again+")"))
}

// under makes a value where more names are in sight.
func (m *maker) under(k kind, depth int, does string, names ...named) string {
	before := m.sight
	m.sight = slices.Concat(m.sight, names)
	text := m.value(k, depth, does)
	m.sight = before
	return text
}

// known is a name of a kind that does no more than it may, if there is one that is not hidden.
func (m *maker) known(of byte, does string) string {
	var found []string
	hidden := " "
	for _, s := range slices.Backward(m.sight) {
		if !strings.Contains(hidden, " "+s.name+" ") && s.of == of && strings.Trim(s.does, does) == "" {
			found = append(found, s.name)
		}
		hidden += s.name + " "
	}
	if len(found) == 0 {
		return ""
	}
	return m.oneOf(found...)
}

// value makes an expression in brackets, or an atom, where some operations may be done.
func (m *maker) value(k kind, depth int, does string) string {
	if known := m.known(k.of, k.does); known != "" && (depth <= 0 || m.Intn(4) == 0) {
		return known
	}
	if depth <= 0 {
		return m.least(k)
	}
	if m.Intn(3) > 0 {
		return "(" + m.own(k, depth-1, does) + ")"
	}
	return "(" + m.form(k, depth-1, does) + ")"
}

// least is what needs no more than one part.
func (m *maker) least(k kind) string {
	switch k.of {
	case 'i':
		return m.oneOf("0", "1", "2", "~3")
	case 'b':
		return m.oneOf("true", "false")
	case 'l':
		return m.oneOf("[]", "[1]", "[2, 3]")
	case 'p':
		return m.oneOf("(1, 2)", "(0, 3)")
	}
	return "(fn x => " + m.oneOf("x", "x + 1", "1") + ")"
}

// own is an expression that there is of a kind alone.
func (m *maker) own(k kind, depth int, does string) string {
	part := func(of byte) string { return m.value(kind{of: of}, depth, does) }
	switch k.of {
	case 'i':
		return m.number(depth, does)
	case 'b':
		if strings.Contains(does, "c") && m.Intn(2) == 0 {
			return "do c ()"
		}
		return part('i') + m.oneOf(" < ", " == ") + part('i')
	case 'l':
		return part('i') + " :: " + part('l')
	case 'p':
		return part('i') + ", " + part('i')
	}
	x := named{m.name(), aNumber}
	return fmt.Sprintf("fn %s => %s", x.name, m.under(aNumber, depth, k.does, x))
}

// number is an expression for a number: mostly a call, or what is done.
func (m *maker) number(depth int, does string) string {
	part := func(of byte) string { return m.value(kind{of, does}, depth, does) }
	if known := m.known('f', does); known != "" && m.Intn(2) == 0 {
		return known + " " + part('i')
	}
	if op := m.oneOf("a", "b", "d"); strings.Contains(does, op) && m.Intn(3) > 0 {
		return "do " + op + " " + part('i') + strings.Repeat("; 1", strings.Count(op, "d"))
	}
	switch m.Intn(4) {
	case 0:
		return part('f') + " " + part('i')
	case 1:
		return m.oneOf("fst ", "snd ") + part('p')
	}
	return part('i') + m.oneOf(" + ", " - ", " * ") + part('i')
}

// form is an expression that there is of every kind.
func (m *maker) form(k kind, depth int, does string) string {
	x, l := named{m.name(), aNumber}, named{"l", kind{of: 'l'}}
	part := func(of byte) string { return m.value(kind{of: of}, depth, does) }
	switch m.Intn(9) {
	case 0:
		return fmt.Sprintf("let %s = %s in %s", x.name, part('i'), m.under(k, depth, does, x))
	case 1, 2:
		f := named{m.oneOf("f", "g", "h"), kind{'f', m.oneOf("", does)}}
		return fmt.Sprintf("let %s in %s", m.binding(f, depth), m.under(k, depth, does, f))
	case 3:
		return part("ilp"[m.Intn(3)]) + "; " + m.value(k, depth, does)
	case 4:
		return fmt.Sprintf("case %s of [] => %s | %s :: l => %s end", part('l'), m.value(k, depth, does), x.name, m.under(k, depth, does, x, l))
	case 5:
		return fmt.Sprintf("if %s then %s else %s", part('b'), m.value(k, depth, does), m.value(k, depth, does))
	}
	return m.handler(k, depth, does)
}

// handler handles some operations more than may be done already. Some give functions, which are applied to a state at once.
func (m *maker) handler(k kind, depth int, does string) string {
	ops, word := m.oneOf("a", "b", "ab", "c", "d", "abcd", "bd", ""), m.oneOf("handle", "handle", "shallow")
	inner := kind{of: "iiilpb"[m.Intn(6)]}
	x := named{m.name(), inner}
	stateful := word == "handle" && k.of != 'f' && m.Intn(4) == 0
	text := fmt.Sprintf("%s %s with { return %s => ", word, m.value(inner, depth, does+ops), x.name)
	if stateful {
		text += "fn s => "
	}
	text += m.under(k, depth-1, does, x)
	for _, i := range m.Perm(len(ops)) {
		text += fmt.Sprintf(" | %c n k => ", ops[i])
		switch {
		case stateful:
			text += fmt.Sprintf("fn s => k %s (s + 1)", m.given(ops[i]))
		case word == "handle":
			text += m.deep(k, ops[i], depth-1, does)
		default:
			text += m.shallow(k, ops, ops[i], depth-1, does)
		}
	}
	if stateful {
		return "(" + text + " }) 1"
	}
	return text + " }"
}

// given is what an operation may be gone on with.
func (m *maker) given(op byte) string {
	switch op {
	case 'a', 'b':
		return m.oneOf("1", "2", "n", "(n + 1)")
	case 'c':
		return m.oneOf("true", "false")
	}
	return "()"
}

// deep is a clause of a deep handler: it goes on once, twice, later, by a function, within another handler, or not at all.
func (m *maker) deep(k kind, op byte, depth int, does string) string {
	given, other := m.given(op), m.given(op)
	r := named{"r", k}
	switch m.Intn(11) {
	case 0:
		return m.value(k, depth, does)
	case 1:
		return fmt.Sprintf("(k %s; k %s)", given, other)
	case 2:
		return fmt.Sprintf("(let r = k %s in %s)", given, m.under(k, depth, does, r))
	case 3:
		return fmt.Sprintf("(fst (k, 1)) %s", given)
	case 4:
		return fmt.Sprintf("(case [k] of [] => k %s | j :: l => (if %s then j %s else k %s) end)", given, m.value(kind{of: 'b'}, depth, does), given, other)
	case 5:
		return fmt.Sprintf("(fn w => k w) %s", given)
	case 6:
		return fmt.Sprintf("(fn j w => (j w; j w)) k %s", given)
	case 7:
		return fmt.Sprintf("(let rec f i = if i < 1 then k %s else f (i - 1) in f 2)", given)
	case 8:
		return fmt.Sprintf("(%s k %s with { return r => %s })", m.oneOf("handle", "shallow"), given, m.under(k, depth, does, r))
	}
	return "k " + given
}

// shallow is a clause of a shallow handler: what goes on is handled again, or not gone on with.
func (m *maker) shallow(k kind, ops string, op byte, depth int, does string) string {
	if m.Intn(4) == 0 {
		return m.value(k, depth, does)
	}
	word, goesOn := m.oneOf("handle", "handle", "shallow"), m.oneOf("k ", "(fst (k, 1)) ", "(fn w => k w) ")
	text := fmt.Sprintf("%s %s%s with { return y => %s", word, goesOn, m.given(op), m.value(k, depth, does))
	for _, op := range []byte(ops) {
		goes := m.value(k, depth-1, does)
		if word == "handle" && m.Intn(3) > 0 {
			goes = "j " + m.given(op)
		}
		text += fmt.Sprintf(" | %c n j => %s", op, goes)
	}
	return "(" + text + " })"
}
