package rows

import "effectus/api"

// solver has what the variables of the pairs stand for, and of each pair what its sides have become.
type solver struct {
	types             map[int]*node
	rows              map[int]*rowVar
	solved            []*node
	typesNew, rowsNew int // how many variables the answer has so far
}

func newSolver() *solver {
	return &solver{types: map[int]*node{}, rows: map[int]*rowVar{}}
}

// add solves one more pair together with those before it.
func (s *solver) add(pair api.Pair) api.Errno {
	a, b := s.nodeOf(pair.A), s.nodeOf(pair.B)
	if !same(a, b) {
		return api.ErrType
	}
	s.solved = append(s.solved, a)
	return s.check()
}

// check looks at what all pairs so far have become: one of them may have grown by the last one.
func (s *solver) check() api.Errno {
	kind := api.OK
	for _, n := range s.solved {
		parts := n.measure(len(s.solved))
		if parts == 0 {
			return api.ErrType
		}
		if parts > api.MaxType {
			kind = api.ErrBig // unless another one stands within itself
		}
	}
	return kind
}

func (s *solver) nodeOf(t api.Type) *node {
	if t.Kind == api.TyVar {
		return found(s.types, t.N, node{kind: api.TyVar})
	}
	n := &node{kind: t.Kind, row: row{ops: t.Ops}}
	if t.Row > 0 {
		n.row.rest = found(s.rows, t.Row, rowVar{})
	}
	for _, arg := range t.Args {
		n.args = append(n.args, s.nodeOf(arg))
	}
	return n
}

// found answers what a variable stands for: at first a new one.
func found[T any](all map[int]*T, variable int, first T) *T {
	if all[variable] == nil {
		all[variable] = &first
	}
	return all[variable]
}

func (s *solver) answers() []api.Type {
	var all []api.Type
	for _, n := range s.solved {
		all = append(all, s.answer(n))
	}
	return all
}

// answer writes a type out; variables get their numbers where they are met first.
func (s *solver) answer(n *node) api.Type {
	n = n.now()
	t := api.Type{Kind: n.kind}
	switch n.kind {
	case api.TyVar:
		t.N = numbered(&n.number, &s.typesNew)
	case api.TyList:
		t.Args = []api.Type{s.answer(n.args[0])}
	case api.TyPair:
		t.Args = []api.Type{s.answer(n.args[0]), s.answer(n.args[1])}
	case api.TyFn:
		first := s.answer(n.args[0])
		t.Ops, t.Row = s.answerRow(n.row)
		t.Args = []api.Type{first, s.answer(n.args[1])}
	}
	return t
}

func (s *solver) answerRow(r row) ([]string, int) {
	r = r.whole()
	variable := 0
	if r.rest != nil {
		variable = numbered(&r.rest.number, &s.rowsNew)
	}
	return append([]string(nil), r.ops...), variable
}

// numbered answers the number of a variable, the next one if it has none yet.
func numbered(number, last *int) int {
	if *number == 0 {
		*last++
		*number = *last
	}
	return *number
}
