package core

import "effectus/api"

// namer gives names their numbers.
type namer struct {
	ops   map[string]int
	names map[string]int // of those in sight, of each text the nearest
	last  int            // the last number that was asked for
}

// termOf is asked for a tree that has types: so each name in it is one that is in sight.
func termOf(tree api.Node) api.Term {
	m := &namer{ops: map[string]int{}, names: map[string]int{}}
	for i, n := range tree.Kids[:tree.N] {
		m.ops[n.Name] = i
	}
	last := len(tree.Kids) - 1
	return m.program(tree.Kids[tree.N:last], tree.Kids[last])
}

// program is the term of main within those of the defs.
func (m *namer) program(defs []api.Node, main api.Node) api.Term {
	if len(defs) == 0 {
		return m.term(main)
	}
	return m.let(defs[0], func() api.Term { return m.program(defs[1:], main) })
}

func (m *namer) next() int {
	m.last++
	return m.last
}

// under makes a term with one more name in sight.
func (m *namer) under(name string, number int, inner func() api.Term) api.Term {
	before := m.names[name]
	m.names[name] = number
	t := inner()
	m.names[name] = before
	return t
}

// underTwo makes the term of the last of three kids, with the names of the two ahead of it in sight, the second one nearer.
func (m *namer) underTwo(kids []api.Node, first, second int) api.Term {
	return m.under(kids[0].Name, first, func() api.Term {
		return m.under(kids[1].Name, second, func() api.Term { return m.term(kids[2]) })
	})
}
