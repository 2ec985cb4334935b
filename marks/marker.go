package marks

import "effectus/api"

// marker marks terms.
type marker struct {
	arity map[int]int // of the known functions that were not given up
	marks []bool      // of the terms that were begun
}

// found is what is known of a term: is it calm? If it is a variable, or one applied to calm arguments: which, and to how many.
type found struct {
	calm                bool
	variable, arguments int
}

// know gathers the known functions of a term.
func (m *marker) know(t api.Term) {
	if names(t) {
		m.arity[t.N] = arityOf(t.Kids[0])
	}
	for _, kid := range t.Kids {
		m.know(kid)
	}
}

// names: has the term a variable for a known function?
func names(t api.Term) bool {
	return t.Op == api.TRec || t.Op == api.TLet && t.N > 0 && t.Kids[0].Op == api.TFn
}

func arityOf(t api.Term) int {
	n := 0
	for ; t.Op == api.TFn; t = t.Kids[0] {
		n++
	}
	return n
}

// mark marks a term and those within it, and gives up its known function, if that has a body that is not calm.
func (m *marker) mark(t api.Term) found {
	place := len(m.marks)
	m.marks = append(m.marks, false)
	f := m.find(t)
	m.marks[place] = f.calm
	return f
}

func (m *marker) find(t api.Term) found {
	switch t.Op {
	case api.TVar:
		return found{calm: true, variable: t.N}
	case api.TFn:
		m.mark(t.Kids[0])
		return found{calm: true}
	case api.TApp:
		return m.applied(m.mark(t.Kids[0]), m.mark(t.Kids[1]))
	case api.TDo:
		m.mark(t.Kids[0])
		return found{}
	case api.TLet, api.TRec:
		return m.bound(t)
	}
	return found{calm: m.all(t.Kids)}
}

// all marks each term, whether one ahead of it is calm or not.
func (m *marker) all(terms []api.Term) bool {
	calm := true
	for _, t := range terms {
		calm = m.mark(t).calm && calm
	}
	return calm
}

// applied: one to too few arguments is not calm, but what it is is kept, for it may be with more.
func (m *marker) applied(function, argument found) found {
	if function.variable == 0 || !argument.calm {
		return found{}
	}
	arguments := function.arguments + 1
	arity, kept := m.arity[function.variable]
	return found{calm: kept && arguments == arity, variable: function.variable, arguments: arguments}
}

// bound gives the function up ahead of the second kid, so that a row of functions that call the ones before them is given up at one go.
func (m *marker) bound(t api.Term) found {
	place := len(m.marks)
	first := m.mark(t.Kids[0])
	if arity, kept := m.arity[t.N]; kept && !m.marks[place+arity] {
		delete(m.arity, t.N)
	}
	second := m.mark(t.Kids[1])
	return found{calm: first.calm && second.calm}
}
