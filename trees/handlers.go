package trees

import (
	"cmp"
	"slices"

	"effectus/api"
)

// asking is what a handler knows where what it handles asks for an operation.
type asking struct {
	at                  place
	number, value, rest int // variables
	again               int // the variable of what goes on with the rest, and the handler around it
	shallow             bool
}

// clause is what a handler does for an operation.
type clause struct {
	op, value, resumption int
	body                  part
}

// handler is a function that looks at what is handled, and at what comes when that is gone on with.
func (m *maker) handler(p part) api.Term {
	at := p.place()
	if p.kids[0].calm {
		return at.let(p.N, m.calm(p.kids[0]), m.computation(p.kids[1])) // nothing is asked for there
	}
	handles, handled, given := m.next(), m.next(), m.next()
	a := asking{at: at, number: m.next(), value: m.next(), rest: m.next(), again: m.next(), shallow: p.Of == 1}
	again := at.function(given, at.apply(at.variable(handles), at.apply(at.variable(a.rest), at.variable(given))))
	look := at.look([4]int{p.N, a.number, a.value, a.rest}, at.variable(handled),
		m.computation(p.kids[1]),
		at.let(a.again, again, m.choice(a, p.clauses())))
	return at.rec(handles, at.function(handled, look), at.apply(at.variable(handles), m.computation(p.kids[0])))
}

// clauses are those of a handler, by the numbers of their operations.
func (p part) clauses() []clause {
	var all []clause
	for i, body := range p.kids[2:] {
		numbers := p.Ns[3*i:]
		all = append(all, clause{numbers[0], numbers[1], numbers[2], body})
	}
	slices.SortFunc(all, func(a, b clause) int { return cmp.Compare(a.op, b.op) })
	return all
}

// choice finds the clause by halves: what is asked for through many handlers of many clauses must not take steps for each clause.
func (m *maker) choice(a asking, clauses []clause) api.Term {
	half := len(clauses) / 2
	switch len(clauses) {
	case 0:
		return a.outwards()
	case 1:
		return a.compared("==", clauses[0].op, m.taken(a, clauses[0]), a.outwards())
	}
	return a.compared("<", clauses[half].op, m.choice(a, clauses[:half]), m.choice(a, clauses[half:]))
}

func (a asking) compared(sign string, op int, yes, no api.Term) api.Term {
	test := a.at.sign(sign, a.at.variable(a.number), a.at.numbered(api.TInt, op))
	return a.at.term(api.TIf, test, yes, no)
}

// outwards asks for what the handler has no clause for, and stays around what comes then, shallow or not.
func (a asking) outwards() api.Term {
	return a.at.ask(a.at.variable(a.number), a.at.variable(a.value), a.at.variable(a.again))
}

// taken is a clause that takes over.
func (m *maker) taken(a asking, c clause) api.Term {
	resumption := a.at.variable(a.again)
	if a.shallow {
		resumption = a.at.variable(a.rest)
	}
	if op := m.ops[c.op]; op.N == 1 {
		resumption = a.at.term(api.TOnce, resumption)
		resumption.S = op.Name
	}
	return a.at.let(c.value, a.at.variable(a.value), a.at.let(c.resumption, resumption, m.computation(c.body)))
}
