package meaning_test

import (
	"slices"
	"strconv"
	"strings"

	"effectus/api"
	"effectus/syntax"
)

// The model reads the document as rewriting: a program is one term; what is to be done next is looked for from its root on, and
// done there. A name that stands for something has its value as a kid. A resumption is what stood around an EDo: terms, each
// with the number of the kid where the next one stood. Terms are never changed.

const resumptionTerm = -1

type term struct {
	kind         int
	name         string
	n            int
	kids         []*term
	begun, value bool
	own          string // of a function: the name by which it knows itself
	holes        []hole // of a resumption
	used         *int
}

type hole struct {
	of  *term
	kid int
}

type model struct {
	fuel, steps, done, resumed int
	once                       map[string]bool
	outcome                    api.Outcome
	over                       bool
}

// modelRun answers how a text's run ends, how many operations it does, and how many resumptions it applies.
func modelRun(text string, fuel int) (outcome api.Outcome, done, resumed int) {
	n, _ := syntax.Parse(text)
	m := &model{fuel: fuel, once: map[string]bool{}}
	for _, op := range n.Kids[:n.N] {
		m.once[op.Name] = op.N == 1
	}
	defs := n.Kids[n.N : len(n.Kids)-1]
	root := termOf(n.Kids[len(n.Kids)-1])
	for _, def := range slices.Backward(defs) {
		root = &term{kind: api.ELet, name: def.Name, n: def.N, kids: []*term{termOf(def.Kids[0]), root}, begun: true}
	}
	for !m.over {
		if root.value {
			m.end(api.Done, "", modelShown(root))
			break
		}
		root = m.rewritten(root)
	}
	m.outcome.Steps = m.steps
	return m.outcome, m.done, m.resumed
}

func modelShown(t *term) string {
	var out strings.Builder
	shownTerm(&out, t)
	if text := out.String(); len(text) > api.MaxShown {
		return text[:api.MaxShown] + "..."
	}
	return out.String()
}

func termOf(n api.Node) *term {
	t := &term{kind: n.Kind, name: n.Name, n: n.N}
	for _, kid := range n.Kids {
		t.kids = append(t.kids, termOf(kid))
	}
	return t
}

func (m *model) end(kind int, op, value string) {
	m.over = true
	m.outcome = api.Outcome{Kind: kind, Op: op, Value: value}
}

// needed is the kid whose value is needed next; none: -1.
func (t *term) needed() int {
	last := -1
	switch t.kind {
	case api.EApp, api.EPair, api.ECons, api.EOp:
		last = 1
	case api.ELet, api.ESeq, api.EIf, api.EFst, api.ESnd, api.ECase, api.EDo, api.EHandle:
		last = 0
	}
	for kid := 0; kid <= last; kid++ {
		if !t.kids[kid].value {
			return kid
		}
	}
	return -1
}

func (m *model) rewritten(root *term) *term {
	var path []hole
	t := root
	for t.begun {
		kid := t.needed()
		if kid < 0 {
			break
		}
		path = append(path, hole{t, kid})
		t = t.kids[kid]
	}
	if t.begun {
		t, path = m.contracted(t, path)
		return plugged(path, t)
	}
	if m.steps == m.fuel {
		m.end(api.Going, "", "")
		return root
	}
	m.steps++
	begun := *t
	begun.begun = true
	return plugged(path, &begun)
}

// plugged puts a term where the last hole is.
func plugged(path []hole, t *term) *term {
	for _, h := range slices.Backward(path) {
		around := *h.of
		around.kids = slices.Clone(h.of.kids)
		around.kids[h.kid] = t
		t = &around
	}
	return t
}

// contracted does what a term is there for, all the values that it needs being there.
func (m *model) contracted(t *term, path []hole) (*term, []hole) {
	switch t.kind {
	case api.EInt, api.EBool, api.EUnit, api.ENil, api.EFn, api.EPair, api.ECons:
		is := *t
		is.value = true
		return &is, path
	case api.EVar:
		return t.kids[0], path
	case api.EApp:
		return m.applied(t.kids[0], t.kids[1]), path
	case api.ELet:
		v := *t.kids[0]
		if t.n == 1 {
			v.own = t.name
		}
		return put(t.kids[1], t.name, &v), path
	case api.ESeq:
		return t.kids[1], path
	case api.EIf:
		return t.kids[2-t.kids[0].n], path
	case api.EFst:
		return t.kids[0].kids[0], path
	case api.ESnd:
		return t.kids[0].kids[1], path
	case api.ECase:
		if t.kids[0].kind == api.ENil {
			return t.kids[1], path
		}
		return put(put(t.kids[4], t.kids[3].name, t.kids[0].kids[1]), t.kids[2].name, t.kids[0].kids[0]), path
	case api.EOp:
		return calculatedTerm(t.name, t.kids[0].n, t.kids[1].n), path
	case api.EDo:
		return m.taken(t, path)
	}
	return put(t.kids[1].kids[0], t.kids[1].name, t.kids[0]), path
}

func calculatedTerm(sign string, a, b int) *term {
	t := &term{kind: api.EInt, value: true}
	holds := false
	switch sign {
	case "+":
		t.n = a + b
	case "-":
		t.n = a - b
	case "*":
		t.n = a * b
	case "<":
		t.kind, holds = api.EBool, a < b
	default:
		t.kind, holds = api.EBool, a == b
	}
	if holds {
		t.n = 1
	}
	return t
}

func (m *model) applied(f, argument *term) *term {
	if f.kind == resumptionTerm {
		if *f.used++; *f.used > 1 && m.once[f.name] {
			m.end(api.Spent, f.name, "")
		}
		m.resumed++
		return plugged(f.holes, argument)
	}
	body := put(f.kids[0], f.name, argument)
	if f.own != "" {
		body = put(body, f.own, f)
	}
	return body
}

// taken lets the nearest EHandle of the path take over from an EDo.
func (m *model) taken(t *term, path []hole) (*term, []hole) {
	m.done++
	for i, h := range slices.Backward(path) {
		if h.of.kind != api.EHandle {
			continue
		}
		for _, clause := range h.of.kids[2:] {
			if clause.name == t.name {
				k := &term{kind: resumptionTerm, name: t.name, holes: slices.Clone(path[i+h.of.n:]), used: new(int), value: true, begun: true}
				return put(put(clause.kids[2], clause.kids[1].name, k), clause.kids[0].name, t.kids[0]), path[:i]
			}
		}
	}
	m.end(api.Wrong, "", "")
	return t, path
}

// put is a term in which a name has a value, where it isn't another one of the same text.
func put(t *term, name string, v *term) *term {
	if t.value {
		return t
	}
	if t.kind == api.EVar {
		if t.name != name || len(t.kids) > 0 {
			return t
		}
		return &term{kind: api.EVar, name: name, kids: []*term{v}}
	}
	with := *t
	with.kids = nil
	for i, kid := range t.kids {
		if !t.binds(name, i) {
			kid = put(kid, name, v)
		}
		with.kids = append(with.kids, kid)
	}
	return &with
}

// binds tells whether in a kid the name is the term's own one.
func (t *term) binds(name string, kid int) bool {
	switch t.kind {
	case api.EFn, api.CReturn:
		return t.name == name
	case api.ELet:
		return t.name == name && (kid == 1 || t.n == 1)
	case api.ECase:
		return kid == 4 && (t.kids[2].name == name || t.kids[3].name == name)
	case api.COp:
		return kid == 2 && (t.kids[0].name == name || t.kids[1].name == name)
	}
	return false
}

// shownTerm writes more than may be shown, but of a value without measure not all.
func shownTerm(out *strings.Builder, t *term) {
	if out.Len() > api.MaxShown {
		return
	}
	switch t.kind {
	case api.EInt:
		out.WriteString(strconv.Itoa(t.n))
	case api.EBool:
		out.WriteString(strconv.FormatBool(t.n == 1))
	case api.EUnit:
		out.WriteString("()")
	case api.EPair:
		out.WriteString("(")
		shownTerm(out, t.kids[0])
		out.WriteString(", ")
		shownTerm(out, t.kids[1])
		out.WriteString(")")
	case api.ENil, api.ECons:
		between := "["
		for ; t.kind == api.ECons; t = t.kids[1] {
			out.WriteString(between)
			shownTerm(out, t.kids[0])
			between = ", "
		}
		out.WriteString(strings.TrimSuffix(between, ", ") + "]")
	default:
		out.WriteString("fn")
	}
}
