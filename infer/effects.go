package infer

import (
	"effectus/api"
	"effectus/unify"
)

func (c *checker) do(n api.Node, around unify.Row) *unify.Node {
	op := c.operation(n)
	c.made(n.Kids[0], around, op.takes)
	sameRow(around, unify.NewRow(n.Name), n.At)
	return op.gives
}

// operation answers the one that an expression or a clause names.
func (c *checker) operation(n api.Node) operation {
	op, found := c.ops[n.Name]
	if !found {
		refuse(api.ErrName, n.At)
	}
	return op
}

func (c *checker) handle(n api.Node, around unify.Row) *unify.Node {
	first, end, clauses := n.Kids[0], n.Kids[1], n.Kids[2:]
	inside := around.With(c.handled(clauses)...)
	handled := c.expr(first, inside)
	t := c.under(end.Name, plain(handled), func() *unify.Node { return c.expr(end.Kids[0], around) })
	for _, clause := range clauses {
		op := c.ops[clause.Name]
		k := unify.Fn(op.gives, around, t)
		if n.N == 1 {
			k = unify.Fn(op.gives, inside, handled)
		}
		gives := c.underTwo(clause.Kids, binding{node: op.takes, opened: true}, binding{node: k, opened: true}, around)
		c.same(gives, t, clause.Kids[2].At)
	}
	return t
}

// handled answers the operations of a handler's clauses.
func (c *checker) handled(clauses []api.Node) []string {
	var ops []string
	seen := map[string]int{}
	for _, clause := range clauses {
		c.operation(clause)
		if seen[clause.Name]++; seen[clause.Name] > 1 {
			refuse(api.ErrTwice, clause.At)
		}
		ops = append(ops, clause.Name)
	}
	return ops
}
