package marks_test

import (
	"fmt"
	"math/rand"
	"slices"
	"strings"
)

// maker makes texts of programs that mostly have types, with many functions of one to three parameters, calm ones and others, within one another.
// What may be done somewhere is a text of operations: "ab" is a and b.
type maker struct {
	*rand.Rand
	sight []named
}

// named is a name in sight: of a number (arity 0), or of a function of numbers; does says what that does.
type named struct {
	name  string
	arity int
	does  string
}

const makerOps = "op once a : int => int op many b : int => int "

func newMaker(seed int64) *maker {
	return &maker{Rand: rand.New(rand.NewSource(seed))}
}

const makerNames = "cdefhij"

func (m *maker) name() string { return makerNames[m.Intn(len(makerNames)):][:1] }

func (m *maker) oneOf(choices ...string) string { return choices[m.Intn(len(choices))] }

// some are some of the operations, mostly none.
func (m *maker) some() string { return m.oneOf("", "", "", "a", "b", "ab") }

func (m *maker) text() string {
	text := makerOps
	for i := range m.Intn(5) {
		f := named{makerNames[i : i+1], 1 + m.Intn(3), m.some()}
		text += "def " + m.binding(f, 3) + " "
		m.sight = append(m.sight, f)
	}
	return text + "main = " + m.handler(3, "")
}

// binding is what stands behind the word of a def or a let, up to its function's body.
func (m *maker) binding(f named, depth int) string {
	var inner []named
	text, again := f.name, f.name
	for i := range f.arity {
		p := named{name: m.name()}
		for p.name == f.name || slices.Contains(inner, p) {
			p.name = m.name()
		}
		inner = append(inner, p)
		text += " " + p.name
		if i > 0 {
			again += " " + p.name
		} else {
			again += " (" + p.name + " - 1)"
		}
	}
	if m.Intn(2) == 0 {
		return text + " = " + m.under(depth, f.does, inner...)
	}
	own := f
	own.does = m.oneOf(f.does, "never", "never") // called again it may go on for ever
	inner = append(inner, own)
	last := m.under(depth, f.does, inner...)
	return fmt.Sprintf("rec %s = if %s < 1 then %s else %s + %s", text, inner[0].name, last, again, m.under(depth, f.does, inner...))
}

func (m *maker) under(depth int, does string, names ...named) string {
	before := m.sight
	m.sight = slices.Concat(m.sight, names)
	text := m.number(depth, does)
	m.sight = before
	return text
}

// known are the names of functions that do no more than they may, or of numbers, that are not hidden.
func (m *maker) known(function bool, does string) []named {
	var found []named
	hidden := ""
	for _, s := range slices.Backward(m.sight) {
		if !strings.Contains(hidden, s.name) && (s.arity > 0) == function && strings.Trim(s.does, does) == "" {
			found = append(found, s)
		}
		hidden += s.name
	}
	return found
}

func (m *maker) number(depth int, does string) string {
	if known := m.known(false, ""); len(known) > 0 && (depth <= 0 || m.Intn(4) == 0) {
		return known[m.Intn(len(known))].name
	}
	if depth <= 0 {
		return m.oneOf("0", "1", "2", "~3")
	}
	if known := m.known(true, does); len(known) > 0 && m.Intn(2) == 0 {
		return "(" + m.call(known[m.Intn(len(known))], depth-1, does) + ")"
	}
	if does != "" && m.Intn(3) == 0 {
		return "(do " + does[m.Intn(len(does)):][:1] + " " + m.number(depth-1, does) + ")"
	}
	return "(" + m.form(depth-1, does) + ")"
}

// call applies a function, mostly at one go; else by way of what it is with less arguments, or as a value.
func (m *maker) call(f named, depth int, does string) string {
	first, rest := " "+m.number(depth, does), ""
	for range f.arity - 1 {
		rest += " " + m.number(depth, does)
	}
	switch m.Intn(6) {
	case 0:
		return fmt.Sprintf("let p = %s%s in p%s", f.name, first, rest)
	case 1:
		return fmt.Sprintf("(fn p => p%s%s) %s", first, rest, f.name)
	}
	return f.name + first + rest
}

func (m *maker) form(depth int, does string) string {
	part := func() string { return m.number(depth, does) }
	x := named{name: m.name()}
	switch m.Intn(10) {
	case 0:
		return part() + m.oneOf(" + ", " - ", " * ") + part()
	case 1:
		return fmt.Sprintf("let %s = %s in %s", x.name, part(), m.under(depth, does, x))
	case 2, 3, 4:
		f := named{m.name(), 1 + m.Intn(3), m.some()}
		return fmt.Sprintf("let %s in %s", m.binding(f, depth), m.under(depth, does, f))
	case 5:
		return part() + "; " + part()
	case 6:
		return fmt.Sprintf("case [%s] of [] => %s | %s :: l => %s end", part(), part(), x.name, m.under(depth, does, x))
	case 7:
		return fmt.Sprintf("if %s %s %s then %s else %s", part(), m.oneOf("<", "=="), part(), part(), part())
	case 8:
		return m.oneOf("fst", "snd") + " (" + part() + ", " + part() + ")"
	}
	return m.handler(depth, does)
}

func (m *maker) handler(depth int, does string) string {
	ops := m.oneOf("", "a", "b", "ab")
	word, x := m.oneOf("handle", "handle", "shallow"), named{name: m.name()}
	text := fmt.Sprintf("%s %s with { return %s => %s", word, m.number(depth, does+ops), x.name, m.under(depth-1, does, x))
	for _, op := range ops {
		v, k := named{name: m.name()}, named{"k", 1, does}
		inner := []named{v, k}
		if word == "shallow" {
			inner = inner[:1]
		}
		goes := m.under(depth-1, does, inner...)
		if word == "handle" && m.Intn(3) > 0 {
			goes = "k " + goes
		}
		text += fmt.Sprintf(" | %c %s k => %s", op, v.name, goes)
	}
	return text + " }"
}
