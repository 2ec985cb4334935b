package core

import "effectus/api"

func (m *namer) term(n api.Node) api.Term {
	switch n.Kind {
	case api.EInt:
		return api.Term{Op: api.TInt, N: n.N, At: n.At}
	case api.EBool:
		return api.Term{Op: api.TBool, N: n.N, At: n.At}
	case api.EUnit:
		return m.of(api.TUnit, n)
	case api.ENil:
		return m.of(api.TNil, n)
	case api.EVar:
		return api.Term{Op: api.TVar, N: m.names[n.Name], At: n.At}
	case api.EFn:
		return m.function(n)
	case api.EApp:
		return m.of(api.TApp, n)
	case api.ELet:
		return m.let(n, func() api.Term { return m.term(n.Kids[1]) })
	case api.ESeq:
		return m.of(api.TLet, n)
	case api.EIf:
		return m.of(api.TIf, n)
	case api.EPair:
		return m.of(api.TPair, n)
	case api.EFst:
		return m.of(api.TFst, n)
	case api.ESnd:
		return m.of(api.TSnd, n)
	case api.ECons:
		return m.of(api.TCons, n)
	case api.ECase:
		return m.cases(n)
	case api.EOp:
		t := m.of(api.TOp, n)
		t.S = n.Name
		return t
	case api.EDo:
		t := m.of(api.TDo, n)
		t.N, t.S = m.ops[n.Name], n.Name
		return t
	}
	return m.handler(n)
}

// of is a term whose kids are those of all the node's kids.
func (m *namer) of(op int, n api.Node) api.Term {
	return m.begun(op, n, len(n.Kids))
}

// begun is a term that has only the first of its kids so far.
func (m *namer) begun(op int, n api.Node, kids int) api.Term {
	t := api.Term{Op: op, At: n.At}
	for _, kid := range n.Kids[:kids] {
		t.Kids = append(t.Kids, m.term(kid))
	}
	return t
}

func (m *namer) function(n api.Node) api.Term {
	number := m.next()
	kid := m.under(n.Name, number, func() api.Term { return m.term(n.Kids[0]) })
	return api.Term{Op: api.TFn, N: number, At: n.At, Kids: []api.Term{kid}}
}

// let is the term of a def or a let; rest makes that of all of which its name is in sight.
func (m *namer) let(n api.Node, rest func() api.Term) api.Term {
	if n.N == 1 {
		return m.recursive(n, rest)
	}
	first := m.term(n.Kids[0])
	number := m.next()
	return api.Term{Op: api.TLet, N: number, At: n.At, Kids: []api.Term{first, m.under(n.Name, number, rest)}}
}

func (m *namer) recursive(n api.Node, rest func() api.Term) api.Term {
	number := m.next()
	first := m.under(n.Name, number, func() api.Term { return m.term(n.Kids[0]) })
	return api.Term{Op: api.TRec, N: number, At: n.At, Kids: []api.Term{first, m.under(n.Name, number, rest)}}
}

func (m *namer) cases(n api.Node) api.Term {
	t := m.begun(api.TCase, n, 2)
	element, list := m.next(), m.next()
	t.Ns = []int{element, list}
	t.Kids = append(t.Kids, m.underTwo(n.Kids[2:], element, list))
	return t
}

func (m *namer) handler(n api.Node) api.Term {
	t := m.begun(api.THandle, n, 1)
	t.Of, t.N = n.N, m.next()
	end := n.Kids[1]
	t.Kids = append(t.Kids, m.under(end.Name, t.N, func() api.Term { return m.term(end.Kids[0]) }))
	for _, clause := range n.Kids[2:] {
		value, resumption := m.next(), m.next()
		t.Ns = append(t.Ns, m.ops[clause.Name], value, resumption)
		t.Kids = append(t.Kids, m.underTwo(clause.Kids, value, resumption))
	}
	return t
}
