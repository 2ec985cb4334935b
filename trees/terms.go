package trees

import (
	"slices"

	"effectus/api"
)

// calm is the term of a part that is calm: it has the part's value.
func (m *maker) calm(p part) api.Term {
	switch p.Op {
	case api.TVar:
		return m.variable(p)
	case api.TFn:
		return p.place().function(p.N, m.computation(p.kids[0]))
	case api.TApp:
		return m.applied(p)
	case api.TLet, api.TRec:
		return m.let(p, m.calm)
	case api.THandle:
		return p.place().let(p.N, m.calm(p.kids[0]), m.calm(p.kids[1])) // nothing is asked for there
	}
	var kids []api.Term
	for _, kid := range p.kids {
		kids = append(kids, m.calm(kid))
	}
	return p.with(kids)
}

func (m *maker) variable(p part) api.Term {
	variable, calm := m.values[p.N]
	if !calm {
		return p.place().variable(p.N)
	}
	if variable == 0 {
		variable = m.next()
		m.values[p.N] = variable
	}
	return p.place().variable(variable)
}

// applied is a calm function, and what it is applied to.
func (m *maker) applied(p part) api.Term {
	if p.Op == api.TVar {
		return p.place().variable(p.N)
	}
	return p.place().apply(m.applied(p.kids[0]), m.calm(p.kids[1]))
}

// computation is the term of any part: its value is a computation that comes to the part's value.
func (m *maker) computation(p part) api.Term {
	if p.calm {
		return p.place().come(m.calm(p))
	}
	switch p.Op {
	case api.TApp:
		return m.evaluated(p.place(), p.kids, nil, p.with)
	case api.TLet, api.TRec:
		return m.sequence(p)
	case api.TIf, api.TCase:
		return m.evaluated(p.place(), p.kids[:1], nil, func(values []api.Term) api.Term {
			return p.with(append(values, m.computation(p.kids[1]), m.computation(p.kids[2])))
		})
	case api.TDo:
		return m.evaluated(p.place(), p.kids, nil, func(values []api.Term) api.Term { return m.operation(p, values[0]) })
	case api.THandle:
		return m.handler(p)
	}
	return m.evaluated(p.place(), p.kids, nil, func(values []api.Term) api.Term { return p.place().come(p.with(values)) })
}

// evaluated evaluates kids from the left, behind those whose values there are already, and goes on with terms that have the values.
// A calm kid stands just where its value is asked for, unless one behind it does something: it may go on for ever, and must do so first.
func (m *maker) evaluated(at place, kids []part, values []api.Term, rest func(values []api.Term) api.Term) api.Term {
	if len(kids) == 0 {
		return rest(values)
	}
	kid, behind := kids[0], kids[1:]
	if kid.calm && (kid.atom() || allCalm(behind)) {
		return m.evaluated(at, behind, append(values, m.calm(kid)), rest)
	}
	variable := m.next()
	then := m.evaluated(at, behind, append(values, at.variable(variable)), rest)
	if kid.calm {
		return at.let(variable, m.calm(kid), then)
	}
	return m.bind(at, m.computation(kid), variable, then)
}

func allCalm(parts []part) bool {
	return !slices.ContainsFunc(parts, func(p part) bool { return !p.calm })
}

// sequence is the computation of a term that binds.
func (m *maker) sequence(p part) api.Term {
	if p.kids[0].calm {
		return m.let(p, m.computation)
	}
	return m.bind(p.place(), m.computation(p.kids[0]), p.N, m.computation(p.kids[1]))
}

func (m *maker) operation(p part, value api.Term) api.Term {
	at, given := p.place(), m.next()
	return at.ask(at.numbered(api.TInt, p.N), value, at.function(given, at.come(at.variable(given))))
}
