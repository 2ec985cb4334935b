package trees

import "effectus/api"

// place is where the terms that are made stand in the text.
type place int

func (at place) term(op int, kids ...api.Term) api.Term {
	return api.Term{Op: op, At: int(at), Kids: kids}
}

func (at place) numbered(op, n int, kids ...api.Term) api.Term {
	t := at.term(op, kids...)
	t.N = n
	return t
}

func (at place) variable(n int) api.Term { return at.numbered(api.TVar, n) }

func (at place) function(parameter int, body api.Term) api.Term {
	return at.numbered(api.TFn, parameter, body)
}

func (at place) apply(function, argument api.Term) api.Term {
	return at.term(api.TApp, function, argument)
}

func (at place) let(variable int, first, second api.Term) api.Term {
	return at.numbered(api.TLet, variable, first, second)
}

func (at place) rec(variable int, function, second api.Term) api.Term {
	return at.numbered(api.TRec, variable, function, second)
}

func (at place) sign(sign string, a, b api.Term) api.Term {
	t := at.term(api.TOp, a, b)
	t.S = sign
	return t
}

func (at place) come(value api.Term) api.Term { return at.term(api.TRet, value) }

func (at place) ask(number, value, rest api.Term) api.Term {
	return at.term(api.TAct, number, value, rest)
}

// look looks at a computation; the variables are those of its value, and of its number, its value and its function.
func (at place) look(variables [4]int, computation, come, asked api.Term) api.Term {
	t := at.term(api.TOn, computation, come, asked)
	t.Ns = variables[:]
	return t
}
