package trees

import "effectus/api"

// maker makes the terms of a program in which something may be done. There each function that is a value gives a computation;
// a calm function gives what it comes to, and is another one as a value.
type maker struct {
	ops    []api.Node
	last   int         // the last number of a variable
	binder int         // the variable of the function that binds, 0 while nothing is bound
	values map[int]int // of each calm function the variable that has it as a value, 0 while it is not asked for
}

func (m *maker) next() int {
	m.last++
	return m.last
}

// program is the term of the whole, with the function that binds around it, if anything is bound there.
func (m *maker) program(root part) api.Term {
	at, t := root.place(), m.main(root)
	if m.binder == 0 {
		return t
	}
	return at.rec(m.binder, m.binding(at), t)
}

// main has as its value what a computation comes to, if there is one.
func (m *maker) main(root part) api.Term {
	if root.calm {
		return m.calm(root)
	}
	at, value := root.place(), m.next()
	never := at.term(api.TUnit) // nothing is asked for that no handler has
	return at.look([4]int{value, 0, 0, 0}, m.computation(root), at.variable(value), never)
}

// binding is the function that lets a computation go on with a function: where it has come to a value that is applied to it;
// where it asks, so does the whole, and what comes then goes on in the same way.
func (m *maker) binding(at place) api.Term {
	computation, goes := m.next(), m.next()
	value, number, asked, rest, given := m.next(), m.next(), m.next(), m.next(), m.next()
	then := at.apply(at.apply(at.variable(m.binder), at.apply(at.variable(rest), at.variable(given))), at.variable(goes))
	look := at.look([4]int{value, number, asked, rest}, at.variable(computation),
		at.apply(at.variable(goes), at.variable(value)),
		at.ask(at.variable(number), at.variable(asked), at.function(given, then)))
	return at.function(computation, at.function(goes, look))
}

// bind makes a computation of one that comes to the variable's value, and of what goes on with that.
func (m *maker) bind(at place, computation api.Term, variable int, rest api.Term) api.Term {
	if m.binder == 0 {
		m.binder = m.next()
	}
	if variable == 0 {
		variable = m.next()
	}
	return at.apply(at.apply(at.variable(m.binder), computation), at.function(variable, rest))
}

// let is a term that binds what is calm; rest makes that of all that comes behind.
func (m *maker) let(p part, rest func(part) api.Term) api.Term {
	at, arity := p.place(), p.calmArity()
	if arity == 0 {
		return at.numbered(p.Op, p.N, m.calm(p.kids[0]), rest(p.kids[1]))
	}
	return at.numbered(p.Op, p.N, m.known(p, p.kids[0], arity), m.inSight(p, arity, func() api.Term { return rest(p.kids[1]) }))
}

// known is the function that a term has, as it is.
func (m *maker) known(of, p part, arity int) api.Term {
	if p.Op == api.TFn {
		return p.place().function(p.N, m.known(of, p.kids[0], arity))
	}
	return m.inSight(of, arity, func() api.Term { return m.calm(p) })
}

// inSight makes a term where the calm function of another is in sight, and binds that as a value, if it is asked for.
func (m *maker) inSight(of part, arity int, inner func() api.Term) api.Term {
	m.values[of.N] = 0
	t := inner()
	at, variable := of.place(), m.values[of.N]
	if variable == 0 {
		return t
	}
	return at.let(variable, m.wrapped(at, of.N, arity), t)
}

// wrapped is a calm function as a value. It applies the function bit by bit, so that what was given it once is not given it again
// with each of the last arguments.
func (m *maker) wrapped(at place, function, arity int) api.Term {
	argument := m.next()
	applied := at.apply(at.variable(function), at.variable(argument))
	if arity == 1 {
		return at.function(argument, at.come(applied))
	}
	rest := m.next()
	return at.function(argument, at.let(rest, applied, at.come(m.wrapped(at, rest, arity-1))))
}
