package meaning_test

import (
	"math/rand"
	"slices"
	"strconv"
)

// declared stands ahead of the texts that do something.
const declared = "op once get : unit => int op many put : int => unit op many flip : unit => bool op once ask : int => int op many fork : int => int "

type opType struct{ name, takes, gives string }

func opTypes() []opType {
	return []opType{{"get", "unit", "int"}, {"put", "int", "unit"}, {"flip", "unit", "bool"}, {"ask", "int", "int"}, {"fork", "int", "int"}}
}

// helpers are defs for texts to use.
const helpers = "def rec append a b = case a of [] => b | x :: r => x :: append r b end def rec sum l = case l of [] => 0 | x :: r => x + sum r end " +
	"def state n f = (handle f () with { return x => fn s => x | get u k => fn s => k s s | put v k => fn s => k () v }) n " +
	"def all f = handle f () with { return x => [x] | flip u k => append (k true) (k false) } " +
	"def rec serve n f = shallow f () with { return x => x | ask v k => serve (n + v) (fn u => k n) | get u k => serve (n + 1) (fn u => k n) } "

// known is a name in sight: of a function if it takes something, which does some operations.
type known struct {
	name, takes, gives string
	does               []string
}

// maker makes texts of programs that mostly have types.
type maker struct {
	*rand.Rand
	sight []known
}

func newMaker(seed int64) *maker {
	return &maker{Rand: rand.New(rand.NewSource(seed))}
}

func (m *maker) name() string { return string(rune('a' + m.Intn(7))) }

func (m *maker) oneOf(choices ...string) string { return choices[m.Intn(len(choices))] }

func (m *maker) typeName() string {
	return m.oneOf("int", "int", "int", "bool", "unit", "list", "pair")
}

func (m *maker) text() string {
	text := declared + helpers
	for i := range m.Intn(3) {
		takes, gives := m.typeName(), m.typeName()
		does := m.some(3)
		name, param := "d"+strconv.Itoa(i), m.name()
		text += "def " + name + " " + param + " = " + m.under(gives, 3, does, known{name: param, gives: takes}) + " "
		m.sight = append(m.sight, known{name, takes, gives, does})
	}
	return text + "main = " + m.handler(m.typeName(), 5, nil)
}

// some are some of the operations.
func (m *maker) some(most int) []string {
	var names []string
	for _, i := range m.Perm(len(opTypes()))[:m.Intn(most+1)] {
		names = append(names, opTypes()[i].name)
	}
	return names
}

func (m *maker) under(t string, depth int, does []string, names ...known) string {
	before := m.sight
	m.sight = slices.Concat(m.sight, names)
	text := m.expr(t, depth, does)
	m.sight = before
	return text
}

// inSight answers the names that fit and are not hidden.
func (m *maker) inSight(fits func(known) bool) []known {
	var hidden []string
	var found []known
	for _, k := range slices.Backward(m.sight) {
		if !slices.Contains(hidden, k.name) && fits(k) {
			found = append(found, k)
		}
		hidden = append(hidden, k.name)
	}
	return found
}

func within(some, all []string) bool {
	for _, s := range some {
		if !slices.Contains(all, s) {
			return false
		}
	}
	return true
}

func (m *maker) expr(t string, depth int, does []string) string {
	if t == "less" {
		return "(p - 1)"
	}
	values := m.inSight(func(k known) bool { return k.takes == "" && k.gives == t })
	if len(values) > 0 && (depth <= 0 || m.Intn(4) == 0) {
		return values[m.Intn(len(values))].name
	}
	if depth <= 0 {
		return m.plain(t, 0, does)
	}
	if m.Intn(3) == 0 {
		if text := m.call(t, depth-1, does); text != "" {
			return text
		}
	}
	if m.Intn(3) == 0 {
		if text := m.does(t, depth-1, does); text != "" {
			return text
		}
	}
	return m.form(t, depth-1, does)
}

// call applies a function in sight.
func (m *maker) call(t string, depth int, does []string) string {
	functions := m.inSight(func(k known) bool { return k.takes != "" && k.gives == t && within(k.does, does) })
	if len(functions) == 0 {
		return ""
	}
	f := functions[m.Intn(len(functions))]
	argument := m.expr(f.takes, depth, does)
	switch m.Intn(5) {
	case 0:
		return "((fn h => h " + argument + ") " + f.name + ")"
	case 1:
		return "(case [" + f.name + "] of [] => " + m.plain(t, 0, does) + " | h :: q => h " + argument + " end)"
	case 2:
		return "((fst (" + f.name + ", 1)) " + argument + ")"
	}
	return "(" + f.name + " " + argument + ")"
}

// does does an operation, if it can be one that gives what is asked for.
func (m *maker) does(t string, depth int, does []string) string {
	if len(does) == 0 {
		return ""
	}
	op := m.operation(does)
	for range 3 {
		if op.gives != t {
			op = m.operation(does)
		}
	}
	text := "(do " + op.name + " " + m.expr(op.takes, depth, does)
	if op.gives == t {
		return text + ")"
	}
	return text + "; " + m.expr(t, depth, does) + ")"
}

func (m *maker) operation(does []string) opType {
	name := does[m.Intn(len(does))]
	return opTypes()[slices.IndexFunc(opTypes(), func(op opType) bool { return op.name == name })]
}

// plain writes a value of a type.
func (m *maker) plain(t string, depth int, does []string) string {
	part := func(t string) string { return m.expr(t, depth, does) }
	switch {
	case t == "int" && depth > 0:
		return "(" + part(t) + m.oneOf(" + ", " - ", " * ", " + 10 * ") + part(t) + ")"
	case t == "int":
		return m.oneOf("0", "1", "2", "3", "~1", "9223372036854775807")
	case t == "bool" && depth > 0:
		return "(" + part("int") + m.oneOf(" < ", " == ") + part("int") + ")"
	case t == "bool":
		return m.oneOf("true", "false")
	case t == "unit":
		return "()"
	case t == "pair":
		return "(" + part("int") + ", " + part("int") + ")"
	case depth > 0:
		return "(" + part("int") + " :: " + part("list") + ")"
	}
	return m.oneOf("[]", "[1]", "[2, 3]")
}

func (m *maker) form(t string, depth int, does []string) string {
	part := func(t string) string { return m.expr(t, depth, does) }
	other, name := m.typeName(), m.name()
	switch m.Intn(14) {
	case 0:
		return "(if " + part("bool") + " then " + part(t) + " else " + part(t) + ")"
	case 1:
		return "(let " + name + " = " + part(other) + " in " + m.under(t, depth, does, known{name: name, gives: other}) + ")"
	case 2:
		return "(" + part(other) + "; " + part(t) + ")"
	case 3:
		rest := m.name()
		return "(case " + part("list") + " of [] => " + part(t) + " | " + name + " :: " + rest + " => " +
			m.under(t, depth, does, known{name: name, gives: "int"}, known{name: rest, gives: "list"}) + " end)"
	case 4:
		return m.oneOf("(fst ("+part(t)+", "+part(other)+"))", "(snd ("+part(other)+", "+part(t)+"))")
	case 5:
		return "((fn " + name + " => " + m.under(t, depth, does, known{name: name, gives: other}) + ") " + part(other) + ")"
	case 6:
		return m.function(t, depth, does)
	case 7, 8, 9:
		return m.handler(t, depth, does)
	case 10:
		return m.helped(t, depth, does)
	}
	return m.plain(t, depth, does)
}

// function binds a name to a function, perhaps one that calls itself some times.
func (m *maker) function(t string, depth int, does []string) string {
	f := known{m.name(), "int", m.typeName(), m.some(2)}
	param := known{name: m.name(), gives: "int"}
	rest := " in " + m.under(t, depth, does, f) + ")"
	if m.Intn(2) == 0 {
		return "(let " + f.name + " " + param.name + " = " + m.under(f.gives, depth, f.does, param) + rest
	}
	param.name = "p"
	again := known{f.name, "less", f.gives, f.does}
	return "(let rec " + f.name + " p = if p < 1 then " + m.under(f.gives, 0, nil, param) + " else " + m.under(f.gives, depth, f.does, param, again) + rest
}

func (m *maker) handler(t string, depth int, does []string) string {
	handled := m.some(4)
	first := t
	if m.Intn(3) == 0 {
		first = m.typeName()
	}
	inside := slices.Compact(slices.Sorted(slices.Values(slices.Concat(does, handled))))
	word, name := m.oneOf("handle", "handle", "shallow"), m.name()
	text := "(" + word + " " + m.expr(first, depth, inside) + " with { return " + name + " => " + m.under(t, depth-1, does, known{name: name, gives: first})
	for _, op := range opTypes() {
		if !slices.Contains(handled, op.name) {
			continue
		}
		v, k := known{name: m.name(), gives: op.takes}, known{"k", op.gives, t, does}
		if word == "shallow" {
			k.gives, k.does = first, inside
		}
		text += " | " + op.name + " " + v.name + " k => " + m.clause(t, depth-1, does, word == "shallow", v, k)
	}
	return text + " })"
}

// clause is mostly made of what goes on: once, twice, or with another handler around it.
func (m *maker) clause(t string, depth int, does []string, shallow bool, v, k known) string {
	k0 := "k " + m.under(k.takes, min(depth, 1), does, v, k)
	k1 := "k " + m.under(k.takes, min(depth, 1), does, v, k)
	switch n := m.Intn(6); {
	case n == 0:
		return m.under(t, depth, does, v, k)
	case shallow && n < 4:
		return "(handle " + k0 + " with { return x => " + m.under(t, 1, does, v, k, known{name: "x", gives: k.gives}) +
			" | get u k => k 5 | put v k => k () | flip u k => k false | ask v k => k v | fork v k => k (v + 1) })"
	case shallow && k.gives == t:
		return "(serve 1 (fn u => " + k0 + "))"
	case n == 1 && t == "int":
		return "(" + k0 + " + 100 * " + k1 + ")"
	case n == 1 && t == "list":
		return "append (" + k0 + ") (" + k1 + ")"
	case shallow:
		return m.under(t, depth, does, v, k)
	case n == 2:
		return "(" + k0 + "; " + k1 + ")"
	}
	return k0
}

// helped uses one of the helpers.
func (m *maker) helped(t string, depth int, does []string) string {
	switch m.Intn(4) {
	case 0:
		return "(state " + m.expr("int", depth, does) + " (fn u => " + m.expr(t, depth, append(slices.Clone(does), "get", "put")) + "))"
	case 1:
		return "(serve 2 (fn u => " + m.expr(t, depth, append(slices.Clone(does), "get", "ask")) + "))"
	case 2:
		if t == "int" {
			return "(sum " + m.expr("list", depth, does) + ")"
		}
	}
	if t == "list" {
		return "(all (fn u => " + m.expr("int", depth, append(slices.Clone(does), "flip")) + "))"
	}
	return m.expr(t, depth, does)
}
