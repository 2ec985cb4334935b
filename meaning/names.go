package meaning

import "effectus/api"

// program is a tree whose names were looked for.
type program struct {
	defs []definition
	main expr
}

// definition is a def: its function's kid, and whether it knows its own name.
type definition struct {
	body expr
	rec  bool
}

// finder looks for names: which operations they are of, and where they stand in sight.
type finder struct {
	ops   map[string]*operation
	names map[string]int // of each name in sight how many there are where it is the nearest
	depth int            // how many there are here
}

// programOf is asked for a tree that has types.
func programOf(tree api.Node) program {
	f := &finder{ops: map[string]*operation{}, names: map[string]int{}}
	for i, n := range tree.Kids[:tree.N] {
		f.ops[n.Name] = &operation{number: i, name: n.Name, once: n.N == 1}
	}
	var p program
	last := len(tree.Kids) - 1
	for _, n := range tree.Kids[tree.N:last] {
		p.defs = append(p.defs, f.definition(n))
	}
	p.main = f.expr(tree.Kids[last])
	return p
}

// definition leaves the name in sight of all that comes behind.
func (f *finder) definition(n api.Node) definition {
	function := n.Kids[0]
	d := definition{rec: n.N == 1}
	if d.rec {
		d.body = f.under(function.Kids[0], n.Name, function.Name)
	} else {
		d.body = f.under(function.Kids[0], function.Name)
	}
	f.depth++
	f.names[n.Name] = f.depth
	return d
}

// under looks at an expression with more names in sight, the nearest one last.
func (f *finder) under(n api.Node, names ...string) expr {
	if len(names) == 0 {
		return f.expr(n)
	}
	name := names[0]
	before := f.names[name]
	f.depth++
	f.names[name] = f.depth
	e := f.under(n, names[1:]...)
	f.depth--
	f.names[name] = before
	return e
}

func (f *finder) expr(n api.Node) expr {
	switch n.Kind {
	case api.EInt:
		return literal{number(n.N)}
	case api.EBool:
		return literal{truth(n.N == 1)}
	case api.EUnit:
		return literal{unit{}}
	case api.ENil:
		return literal{list{}}
	case api.EVar:
		return variable{f.names[n.Name]}
	case api.EFn:
		return lambda{f.under(n.Kids[0], n.Name)}
	case api.EApp:
		return f.two(n, (*runner).apply)
	case api.ELet:
		return f.let(n)
	case api.ESeq:
		rest := f.expr(n.Kids[1])
		return f.one(n, func(r *runner, s *sight, v value) { r.goOn(rest, s) })
	case api.EIf:
		return f.one(n, choosing(f.expr(n.Kids[1]), f.expr(n.Kids[2])))
	case api.EPair:
		return f.two(n, (*runner).pair)
	case api.EFst:
		return f.one(n, halving(func(p pair) value { return p.first }))
	case api.ESnd:
		return f.one(n, halving(func(p pair) value { return p.second }))
	case api.ECons:
		return f.two(n, (*runner).cons)
	case api.ECase:
		return f.one(n, looking(f.expr(n.Kids[1]), f.underTwo(n.Kids[2:])))
	case api.EOp:
		return f.two(n, calculating(n.Name))
	case api.EDo:
		op := f.ops[n.Name]
		return f.one(n, func(r *runner, s *sight, v value) { r.do(op, v) })
	}
	return f.handling(n)
}

func (f *finder) one(n api.Node, then func(r *runner, s *sight, v value)) expr {
	return &one{kid: f.expr(n.Kids[0]), then: then}
}

func (f *finder) two(n api.Node, then func(r *runner, a, b value)) expr {
	return &two{first: f.expr(n.Kids[0]), second: f.expr(n.Kids[1]), then: then}
}

// underTwo looks at the last of three kids, with the names of the two ahead of it in sight.
func (f *finder) underTwo(kids []api.Node) expr {
	return f.under(kids[2], kids[0].Name, kids[1].Name)
}

func (f *finder) let(n api.Node) expr {
	rest := f.under(n.Kids[1], n.Name)
	if n.N == 1 {
		return recursive{function: f.under(n.Kids[0], n.Name), rest: rest}
	}
	return f.one(n, func(r *runner, s *sight, v value) { r.goOn(rest, s.with(v)) })
}

func (f *finder) handling(n api.Node) expr {
	end := n.Kids[1]
	h := &handling{shallow: n.N == 1, kid: f.expr(n.Kids[0]), end: f.under(end.Kids[0], end.Name), clauses: map[int]expr{}}
	for _, clause := range n.Kids[2:] {
		op := f.ops[clause.Name].number
		h.clauses[op] = f.underTwo(clause.Kids)
		h.ops.add(op)
	}
	return h
}
