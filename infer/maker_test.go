package infer_test

import (
	"fmt"
	"math/rand"
	"slices"
	"strings"

	"effectus/api"
)

// maker makes texts of programs that mostly have types.
type maker struct {
	*rand.Rand
	ops    map[string][2]api.Type
	sight  []modelName
	wrongs int // one of so many parts is of a type that it should not be; 0: none
}

// tools are defs of many types, for texts to use.
const tools = "def id x = x def const x y = x def app f x = f x def comp f g x = f (g x) def swap p = (snd p, fst p) " +
	"def rec map f l = case l of [] => [] | x :: r => f x :: map f r end " +
	"def state s f = (handle f () with { return x => fn s => x | get u k => fn s => k s s | put v k => fn s => k () v }) s " +
	"def all f = handle f () with { return x => [x] | flip u k => case k true of [] => k false | x :: r => x :: k false end } "

func newMaker(seed int64, wrongs int) *maker {
	i, b, u := basic(api.TyInt), basic(api.TyBool), basic(api.TyUnit)
	return &maker{Rand: rand.New(rand.NewSource(seed)), wrongs: wrongs, ops: map[string][2]api.Type{
		"get": {u, i}, "put": {i, u}, "flip": {u, b}, "make": {u, arrow(i, i, 0)}, "run": {arrow(u, i, 0), i}, "call": {arrow(i, b, 0, "get"), listOf(i)},
	}}
}

func opNames() []string { return []string{"get", "put", "flip", "make", "run", "call"} }

func (m *maker) name() string { return string(rune('a' + m.Intn(6))) }

// some are some of the operations.
func (m *maker) some(ops []string, most int) []string {
	ops = slices.Clone(ops)
	m.Shuffle(len(ops), func(i, j int) { ops[i], ops[j] = ops[j], ops[i] })
	return ops[:m.Intn(min(most, len(ops))+1)]
}

func (m *maker) typeOf(depth int, ops []string) api.Type {
	switch n := m.Intn(9); {
	case depth == 0 || n < 4:
		return basic(api.TyInt + n%3)
	case n < 6:
		return listOf(m.typeOf(depth-1, ops))
	case n < 7:
		return pairOf(m.typeOf(depth-1, ops), m.typeOf(depth-1, ops))
	}
	return arrow(m.typeOf(depth-1, ops), m.typeOf(depth-1, ops), 0, m.some(ops, 2)...)
}

// text writes a program.
func (m *maker) text() string {
	text := declared
	if m.Intn(2) == 0 {
		text += tools
	}
	helpful := len(text) > len(declared)
	for i := range m.Intn(3) {
		takes, gives := m.typeOf(2, opNames()), m.typeOf(2, opNames())
		row := m.some(opNames(), 2)
		name, param := fmt.Sprintf("d%d", i), m.name()
		m.sight = append(m.sight, modelName{name: param, of: takes})
		body := m.expr(gives, 3, row, helpful)
		m.sight = m.sight[:len(m.sight)-1]
		text += "def " + name + " " + param + " = " + body + " "
		m.sight = append(m.sight, modelName{name: name, of: arrow(takes, gives, 0, row...)})
	}
	if m.Intn(3) == 0 {
		return text + "main = " + m.expr(m.typeOf(2, nil), 5, nil, helpful)
	}
	return text + "main = " + m.handler(m.typeOf(2, nil), 4, nil, helpful)
}

func same(a, b api.Type) bool {
	return a.Kind == b.Kind && slices.Equal(a.Ops, b.Ops) && slices.EqualFunc(a.Args, b.Args, same)
}

// known is a name of the type, if there is one in sight.
func (m *maker) known(t api.Type) string {
	var hidden, found []string
	for i := len(m.sight) - 1; i >= 0; i-- {
		if s := m.sight[i]; !slices.Contains(hidden, s.name) {
			hidden = append(hidden, s.name)
			if same(s.of, t) {
				found = append(found, s.name)
			}
		}
	}
	if len(found) == 0 {
		return ""
	}
	return found[m.Intn(len(found))]
}

// under makes an expression with more names in sight.
func (m *maker) under(t api.Type, depth int, ops []string, tools bool, names ...modelName) string {
	before := m.sight
	m.sight = with(m.sight, names...)
	text := m.expr(t, depth, ops, tools)
	m.sight = before
	return text
}

// made writes a value of a type.
func (m *maker) made(t api.Type, depth int, ops []string, tools bool) string {
	switch t.Kind {
	case api.TyInt:
		if depth > 0 && m.Intn(2) == 0 {
			return "(" + m.expr(t, depth-1, ops, tools) + []string{" + ", " - ", " * "}[m.Intn(3)] + m.expr(t, depth-1, ops, tools) + ")"
		}
		return fmt.Sprint(m.Intn(4))
	case api.TyBool:
		if depth > 0 && m.Intn(2) == 0 {
			i := basic(api.TyInt)
			return "(" + m.expr(i, depth-1, ops, tools) + []string{" < ", " == "}[m.Intn(2)] + m.expr(i, depth-1, ops, tools) + ")"
		}
		return []string{"true", "false"}[m.Intn(2)]
	case api.TyUnit:
		return "()"
	case api.TyList:
		if depth > 0 && m.Intn(3) > 0 {
			return "(" + m.expr(t.Args[0], depth-1, ops, tools) + " :: " + m.expr(t, depth-1, ops, tools) + ")"
		}
		return "[]"
	case api.TyPair:
		return "(" + m.expr(t.Args[0], depth-1, ops, tools) + ", " + m.expr(t.Args[1], depth-1, ops, tools) + ")"
	}
	name := m.name()
	return "(fn " + name + " => " + m.under(t.Args[1], depth-1, t.Ops, tools, modelName{name: name, of: t.Args[0]}) + ")"
}

func (m *maker) expr(t api.Type, depth int, ops []string, tools bool) string {
	if m.wrongs > 0 && m.Intn(m.wrongs) == 0 {
		t = m.typeOf(2, opNames())
		ops = opNames()
		if m.Intn(3) == 0 {
			return m.name()
		}
	}
	if name := m.known(t); name != "" && m.Intn(3) == 0 {
		return name
	}
	if depth <= 0 {
		return m.made(t, 0, ops, tools)
	}
	less := depth - 1
	other := m.typeOf(1, opNames())
	if len(ops) > 0 && m.Intn(4) == 0 {
		return m.does(t, less, ops, tools)
	}
	switch m.Intn(14) {
	case 0, 1:
		f := arrow(other, t, 0, m.some(ops, 2)...)
		return "(" + m.expr(f, less, ops, tools) + " " + m.expr(other, less, ops, tools) + ")"
	case 2:
		name := m.name()
		return "(let " + name + " = " + m.expr(other, less, ops, tools) + " in " + m.under(t, less, ops, tools, modelName{name: name, of: other}) + ")"
	case 3:
		return m.letFunction(t, other, less, ops, tools)
	case 4:
		return "(if " + m.expr(basic(api.TyBool), less, ops, tools) + " then " + m.expr(t, less, ops, tools) + " else " + m.expr(t, less, ops, tools) + ")"
	case 5:
		return "(" + m.expr(other, less, ops, tools) + "; " + m.expr(t, less, ops, tools) + ")"
	case 6:
		x, l := m.name(), m.name()
		return "(case " + m.expr(listOf(other), less, ops, tools) + " of [] => " + m.expr(t, less, ops, tools) + " | " + x + " :: " + l + " => " +
			m.under(t, less, ops, tools, modelName{name: x, of: other}, modelName{name: l, of: listOf(other)}) + " end)"
	case 7:
		if m.Intn(2) == 0 {
			return "(fst " + m.expr(pairOf(t, other), less, ops, tools) + ")"
		}
		return "(snd " + m.expr(pairOf(other, t), less, ops, tools) + ")"
	case 8, 9, 10:
		return m.handler(t, less, ops, tools)
	case 11:
		if tools {
			return m.tool(t, other, less, ops)
		}
	}
	return m.made(t, depth, ops, tools)
}

// does does an operation, and what comes then is of the type.
func (m *maker) does(t api.Type, depth int, ops []string, tools bool) string {
	op := ops[m.Intn(len(ops))]
	text := "(do " + op + " " + m.expr(m.ops[op][0], depth, ops, tools)
	if same(m.ops[op][1], t) {
		return text + ")"
	}
	return text + "; " + m.expr(t, depth, ops, tools) + ")"
}

func (m *maker) letFunction(t, other api.Type, depth int, ops []string, tools bool) string {
	takes := m.typeOf(1, opNames())
	f := arrow(takes, other, 0, m.some(opNames(), 2)...)
	name, param := m.name(), m.name()
	own := []modelName{{name: param, of: takes}}
	word := "let "
	if m.Intn(2) == 0 {
		word = "let rec "
		own = []modelName{{name: name, of: f}, {name: param, of: takes}}
	}
	return "(" + word + name + " " + param + " = " + m.under(other, depth, f.Ops, tools, own...) + " in " + m.under(t, depth, ops, tools, modelName{name: name, of: f}) + ")"
}

func (m *maker) handler(t api.Type, depth int, ops []string, tools bool) string {
	handled := m.some(opNames(), 3)
	first := m.typeOf(1, opNames())
	if m.Intn(2) == 0 {
		first = t
	}
	inside := slices.Compact(slices.Sorted(slices.Values(slices.Concat(ops, handled))))
	shallow := m.Intn(3) == 0
	word := "(handle "
	if shallow {
		word = "(shallow "
	}
	name := m.name()
	text := word + m.expr(first, depth, inside, tools) + " with { return " + name + " => " + m.under(t, depth, ops, tools, modelName{name: name, of: first})
	for _, op := range handled {
		k := arrow(m.ops[op][1], t, 0, ops...)
		if shallow {
			k = arrow(m.ops[op][1], first, 0, inside...)
		}
		v, j := m.name(), m.name()
		body := ""
		if m.Intn(2) == 0 && !shallow && v != j {
			body = "(" + j + " " + m.under(m.ops[op][1], depth, ops, tools, modelName{name: v, of: m.ops[op][0]}, modelName{name: j, of: k}) + ")"
		} else {
			body = m.under(t, depth, ops, tools, modelName{name: v, of: m.ops[op][0]}, modelName{name: j, of: k})
		}
		text += " | " + op + " " + v + " " + j + " => " + body
	}
	return text + " })"
}

// tool uses one of the defs that have many types.
func (m *maker) tool(t, other api.Type, depth int, ops []string) string {
	expr := func(t api.Type) string { return m.expr(t, depth, ops, true) }
	f := func(a, b api.Type) api.Type { return arrow(a, b, 0, m.some(ops, 2)...) }
	switch m.Intn(7) {
	case 0:
		return "(id " + expr(t) + ")"
	case 1:
		return "(const " + expr(t) + " " + expr(other) + ")"
	case 2:
		return "(app " + expr(f(other, t)) + " " + expr(other) + ")"
	case 3:
		third := m.typeOf(1, ops)
		return "(comp " + expr(f(third, t)) + " " + expr(f(other, third)) + " " + expr(other) + ")"
	case 4:
		return "(fst (swap " + expr(pairOf(other, t)) + "))"
	case 5:
		return "(state " + expr(basic(api.TyInt)) + " " + expr(arrow(basic(api.TyUnit), t, 0, append(m.some(ops, 2), "get", "put")...)) + ")"
	}
	if t.Kind == api.TyList {
		if m.Intn(2) == 0 {
			return "(all " + expr(arrow(basic(api.TyUnit), t.Args[0], 0, append(m.some(ops, 2), "flip")...)) + ")"
		}
		return "(map " + expr(f(other, t.Args[0])) + " " + expr(listOf(other)) + ")"
	}
	return expr(t)
}

// wild makes expressions of any types.
func (m *maker) wild(depth int) string {
	inner := func() string { return m.wild(depth - 1) }
	name := m.name
	if depth <= 0 {
		return []string{name(), name(), "1", "true", "()", "[]", "id", "fn " + name() + " => " + name()}[m.Intn(8)]
	}
	op := opNames()[m.Intn(6)]
	switch m.Intn(18) {
	case 0, 1:
		return "(fn " + name() + " => " + inner() + ")"
	case 2, 3, 4:
		return "(" + inner() + ") (" + inner() + ")"
	case 5, 6:
		return "let " + name() + " = " + inner() + " in " + inner()
	case 7:
		return "let " + name() + " " + name() + " = " + inner() + " in " + inner()
	case 8:
		return "let rec " + name() + " " + name() + " = " + inner() + " in " + inner()
	case 9:
		return "(" + inner() + "; " + inner() + ")"
	case 10:
		return "if " + inner() + " then " + inner() + " else " + inner()
	case 11:
		return "(" + inner() + ", " + inner() + ")"
	case 12:
		return []string{"fst", "snd"}[m.Intn(2)] + " (" + inner() + ")"
	case 13:
		return "((" + inner() + ") :: (" + inner() + "))"
	case 14:
		return "case " + inner() + " of [] => " + inner() + " | " + name() + " :: " + name() + " => " + inner() + " end"
	case 15:
		return "(" + inner() + ") " + []string{"+", "-", "*", "<", "=="}[m.Intn(5)] + " (" + inner() + ")"
	case 16:
		return "do " + op + " (" + inner() + ")"
	}
	text := []string{"handle ", "shallow "}[m.Intn(2)] + inner() + " with { return " + name() + " => " + inner()
	for range m.Intn(3) {
		text += " | " + opNames()[m.Intn(6)] + " " + name() + " " + name() + " => " + inner()
	}
	return text + " }"
}

// changed puts one token of a text in the place of another.
func (m *maker) changed(text string) string {
	tokens := strings.Fields(text)
	from := m.Intn(len(tokens))
	tokens[m.Intn(len(tokens))] = tokens[from]
	return strings.Join(tokens, " ")
}
