package trees

import (
	"slices"

	"effectus/api"
)

// part is a term within a core term, with its mark.
type part struct {
	api.Term // what it has, but for its kids
	calm     bool
	kids     []part
}

// marked joins a term with the first of the marks, and those within it with the ones that follow; it answers what is left of these.
func marked(t api.Term, calm []bool) (part, []bool) {
	p := part{Term: t, calm: calm[0]}
	calm = calm[1:]
	for _, kid := range t.Kids {
		var k part
		k, calm = marked(kid, calm)
		p.kids = append(p.kids, k)
	}
	return p, calm
}

func (p part) place() place { return place(p.At) }

// with is the part with other kids.
func (p part) with(kids []api.Term) api.Term {
	t := p.Term
	t.Ns, t.Kids = slices.Clone(p.Ns), kids
	return t
}

// atom: can it be evaluated at any time, as often as one likes, for one step?
func (p part) atom() bool {
	switch p.Op {
	case api.TInt, api.TBool, api.TUnit, api.TNil, api.TVar:
		return true
	}
	return false
}

// calmArity is how many parameters the calm function has that a term binds, 0 if it binds none.
// A known function is a calm one just if its body is calm: there are as many as can be.
func (p part) calmArity() int {
	if p.Op != api.TRec && (p.Op != api.TLet || p.N == 0) {
		return 0
	}
	body, arity := p.kids[0], 0
	for ; body.Op == api.TFn; body = body.kids[0] {
		arity++
	}
	if !body.calm {
		return 0
	}
	return arity
}

// greatest is a number that no variable of a term is above.
func greatest(t api.Term) int {
	n := 0
	switch t.Op {
	case api.TFn, api.TLet, api.TRec, api.THandle:
		n = t.N
	}
	for _, variable := range t.Ns {
		n = max(n, variable)
	}
	for _, kid := range t.Kids {
		n = max(n, greatest(kid))
	}
	return n
}
