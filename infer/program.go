package infer

import (
	"effectus/api"
	"effectus/rows"
	"effectus/unify"
)

func (c *checker) program(n api.Node) []api.Typing {
	last := len(n.Kids) - 1
	c.operations(n.Kids[:n.N])
	var types []api.Typing
	for _, def := range n.Kids[n.N:last] {
		types = append(types, typing(def.Name, c.def(def)))
	}
	return append(types, typing("main", c.main(n.Kids[last])))
}

func typing(name string, t *unify.Node) api.Typing {
	return api.Typing{Name: name, Type: rows.Show(unify.NewWriter().Write(t))}
}

// def binds the name of a def to its function.
func (c *checker) def(n api.Node) *unify.Node {
	if _, twice := c.names[n.Name]; twice {
		refuse(api.ErrTwice, n.At)
	}
	t := c.bound(n, unify.OnlyRow())
	c.names[n.Name] = c.general(t)
	return t
}

func (c *checker) main(n api.Node) *unify.Node {
	t := c.expr(n, unify.OnlyRow())
	c.fits(t, n.At)
	return t
}

// bound looks at what a def or a let binds its name to.
func (c *checker) bound(n api.Node, around unify.Row) *unify.Node {
	var t *unify.Node
	if n.N == 1 {
		t = c.recursive(n, around)
	} else {
		t = c.expr(n.Kids[0], around)
	}
	c.fits(t, n.At)
	return t
}

// recursive looks at a function that has its own name in sight.
func (c *checker) recursive(n api.Node, around unify.Row) *unify.Node {
	own := unify.New()
	t := c.under(n.Name, plain(own), func() *unify.Node { return c.expr(n.Kids[0], around) })
	c.same(own, t, n.At)
	return t
}
