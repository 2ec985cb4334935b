package infer

import (
	"effectus/api"
	"effectus/unify"
)

// binding is what a name stands for.
type binding struct {
	node   *unify.Node // nil: the name is general
	opened bool        // at each use
	shape  api.Type    // of a general name: its type
	kept   unify.Vars  // those variables of the shape that are not new ones at each use
}

// plain binds to a type that is the same one at each use.
func plain(t *unify.Node) binding {
	return binding{node: t}
}

// under looks at something with one more name in sight.
func (c *checker) under(name string, b binding, look func() *unify.Node) *unify.Node {
	before, had := c.names[name]
	c.names[name] = b
	t := look()
	if had {
		c.names[name] = before
	} else {
		delete(c.names, name)
	}
	return t
}

// general binds to a type of which each use has new variables, but for those that stand in the type of a name in sight.
func (c *checker) general(t *unify.Node) binding {
	w := unify.NewWriter()
	b := binding{opened: true, shape: w.Write(t), kept: w.Vars()}
	round := c.markSight()
	for number, variable := range b.kept.Types {
		if !variable.Marked(round) {
			delete(b.kept.Types, number)
		}
	}
	for number, variable := range b.kept.Rows {
		if !variable.Marked(round) {
			delete(b.kept.Rows, number)
		}
	}
	return b
}

// markSight marks the variables of all names in sight. Those that a general name keeps count as well: the name that they
// are of may be hidden by another one of the same text.
func (c *checker) markSight() int {
	round := c.nextRound()
	for _, b := range c.names {
		if b.node != nil {
			b.node.Mark(round)
		}
		for _, variable := range b.kept.Types {
			variable.Mark(round)
		}
		for _, variable := range b.kept.Rows {
			variable.Mark(round)
		}
	}
	return round
}

// use answers the type of a name where it is used.
func (c *checker) use(n api.Node) *unify.Node {
	b, found := c.names[n.Name]
	if !found {
		refuse(api.ErrName, n.At)
	}
	t := b.node
	if t == nil {
		t = b.kept.Clone().Node(b.shape)
	}
	if b.opened {
		t = opened(t)
	}
	return t
}

// opened answers a type in which the rows of what it is, and gives, and that gives, and so on, have variables: what may do
// less may stand where more is allowed.
func opened(t *unify.Node) *unify.Node {
	t = t.Now()
	if t.Kind != api.TyFn {
		return t
	}
	return unify.Fn(t.Args[0], t.Row.Opened(), opened(t.Args[1]))
}
