package core_test

import (
	"fmt"
	"math/rand"
	"slices"
	"strings"
)

// maker makes texts of programs that mostly have types. Few names stand for many things: numbers, lists, functions, operations.
// What may be done somewhere is a text of operations: "ab" is a and b.
type maker struct {
	*rand.Rand
	sight []named
}

// named is a name in sight: of a number, a list, or (does says what it does) a function from numbers to numbers.
type named struct{ name, kind, does string }

const makerOps = "op once a : int => int op many b : int => int op many c : int => int "

func newMaker(seed int64) *maker {
	return &maker{Rand: rand.New(rand.NewSource(seed))}
}

func (m *maker) name() string { return string(rune('a' + m.Intn(5))) }

func (m *maker) oneOf(choices ...string) string { return choices[m.Intn(len(choices))] }

// some are some of the operations.
func (m *maker) some() string {
	return m.oneOf("", "a", "b", "c", "ab", "ca", "bc", "abc")
}

func (m *maker) text() string {
	text := makerOps
	for i := range m.Intn(4) {
		f := named{string(rune('a' + i)), "function", m.some()}
		text += "def " + m.binding(f, 3) + " "
		m.sight = append(m.sight, f)
	}
	return text + "main = " + m.handler(4, "")
}

// binding is what stands behind the word of a def or a let, up to its function's body.
func (m *maker) binding(f named, depth int) string {
	p := named{name: m.name(), kind: "number"}
	if m.Intn(3) > 0 {
		return fmt.Sprintf("%s %s = %s", f.name, p.name, m.under(depth, f.does, p))
	}
	if p.name == f.name {
		p.name = "p"
	}
	again := fmt.Sprintf("%s (%s - 1)", f.name, p.name)
	return fmt.Sprintf("rec %s %s = if %s < 1 then %s else %s + %s", f.name, p.name, p.name, m.under(depth, f.does, f, p), again, m.under(depth-1, f.does, f, p))
}

func (m *maker) under(depth int, does string, names ...named) string {
	before := m.sight
	m.sight = slices.Concat(m.sight, names)
	text := m.number(depth, does)
	m.sight = before
	return text
}

// known is a name of a kind that does no more than it may, if there is one that is not hidden.
func (m *maker) known(kind, does string) string {
	var hidden, found []string
	for _, s := range slices.Backward(m.sight) {
		if !slices.Contains(hidden, s.name) && s.kind == kind && strings.Trim(s.does, does) == "" {
			found = append(found, s.name)
		}
		hidden = append(hidden, s.name)
	}
	if len(found) == 0 {
		return ""
	}
	return m.oneOf(found...)
}

func (m *maker) number(depth int, does string) string {
	if known := m.known("number", ""); known != "" && (depth <= 0 || m.Intn(4) == 0) {
		return known
	}
	if depth <= 0 {
		return m.oneOf("0", "1", "2", "~3")
	}
	if f := m.known("function", does); f != "" && m.Intn(3) == 0 {
		return "(" + f + " " + m.number(depth-1, does) + ")"
	}
	if does != "" && m.Intn(3) == 0 {
		return "(do " + does[m.Intn(len(does)):][:1] + " " + m.number(depth-1, does) + ")"
	}
	return "(" + m.form(depth-1, does) + ")"
}

func (m *maker) form(depth int, does string) string {
	part := func() string { return m.number(depth, does) }
	x, l := named{name: m.name(), kind: "number"}, named{name: m.name(), kind: "list"}
	switch m.Intn(10) {
	case 0:
		return part() + m.oneOf(" + ", " - ", " * ") + part()
	case 1:
		return fmt.Sprintf("let %s = %s in %s", x.name, part(), m.under(depth, does, x))
	case 2:
		f := named{m.name(), "function", m.some()}
		return fmt.Sprintf("let %s in %s", m.binding(f, depth), m.under(depth, does, f))
	case 3:
		return part() + "; " + part()
	case 4:
		return fmt.Sprintf("case %s of [] => %s | %s :: %s => %s end", m.list(depth, does), part(), x.name, l.name, m.under(depth, does, x, l))
	case 5:
		return fmt.Sprintf("if %s %s %s then %s else %s", part(), m.oneOf("<", "=="), part(), part(), part())
	case 6:
		return m.oneOf("fst", "snd") + " (" + part() + ", " + part() + ")"
	case 7:
		return fmt.Sprintf("(fn %s => %s) %s", x.name, m.under(depth, does, x), part())
	}
	return m.handler(depth, does)
}

func (m *maker) list(depth int, does string) string {
	if known := m.known("list", ""); known != "" && m.Intn(2) == 0 {
		return known
	}
	return m.oneOf("[]", "["+m.number(depth, does)+"]", "("+m.number(depth, does)+" :: "+m.number(0, does)+" :: [])")
}

func (m *maker) handler(depth int, does string) string {
	ops := m.some()
	word, x := m.oneOf("handle", "handle", "shallow"), named{name: m.name(), kind: "number"}
	text := fmt.Sprintf("%s %s with { return %s => %s", word, m.number(depth, does+ops), x.name, m.under(depth-1, does, x))
	for _, i := range m.Perm(len(ops)) {
		v, k := named{name: m.name(), kind: "number"}, named{m.name(), "function", does}
		if word == "shallow" {
			k.kind = "rest"
		}
		text += fmt.Sprintf(" | %c %s %s => %s", ops[i], v.name, k.name, m.clause(depth-1, does, ops, v, k))
	}
	return text + " }"
}

// clause is mostly made of what goes on: once, twice, not at all, or, of a shallow one, with another handler around it.
func (m *maker) clause(depth int, does, ops string, v, k named) string {
	argument := m.under(min(depth, 1), does, v, k)
	switch n := m.Intn(5); {
	case n == 0:
		return m.under(depth, does, v, k)
	case k.kind == "rest":
		text := fmt.Sprintf("handle %s %s with { return x => x + 1", k.name, argument)
		for _, op := range ops {
			text += fmt.Sprintf(" | %c v k => k (v + 1)", op)
		}
		return text + " }"
	case n == 1:
		return fmt.Sprintf("%s %s + 10 * %s %s", k.name, argument, k.name, m.under(min(depth, 1), does, v, k))
	}
	return k.name + " " + argument
}
