package infer

import (
	"effectus/api"
	"effectus/unify"
)

// expr answers the type of an expression; around is what may be done where it stands.
func (c *checker) expr(n api.Node, around unify.Row) *unify.Node {
	switch n.Kind {
	case api.EInt:
		return unify.Of(api.TyInt)
	case api.EBool:
		return unify.Of(api.TyBool)
	case api.EUnit:
		return unify.Of(api.TyUnit)
	case api.ENil:
		return unify.Of(api.TyList, unify.New())
	case api.EVar:
		return c.use(n)
	case api.EFn:
		return c.function(n)
	case api.EApp:
		return c.apply(n, around)
	case api.ELet:
		return c.let(n, around)
	case api.ESeq:
		c.expr(n.Kids[0], around)
		return c.expr(n.Kids[1], around)
	case api.EIf:
		return c.choose(n, around)
	case api.EPair:
		first := c.expr(n.Kids[0], around)
		return unify.Of(api.TyPair, first, c.expr(n.Kids[1], around))
	case api.EFst:
		return c.half(n, around, 0)
	case api.ESnd:
		return c.half(n, around, 1)
	case api.ECons:
		return c.cons(n, around)
	case api.ECase:
		return c.cases(n, around)
	case api.EOp:
		return c.sign(n, around)
	case api.EDo:
		return c.do(n, around)
	case api.EHandle:
		return c.handle(n, around)
	}
	refuse(api.ErrArg, 0)
	return nil
}

// made looks at an expression that has to be of a type.
func (c *checker) made(n api.Node, around unify.Row, t *unify.Node) {
	c.same(c.expr(n, around), t, n.At)
}

func (c *checker) function(n api.Node) *unify.Node {
	takes, row := unify.New(), unify.NewRow()
	gives := c.under(n.Name, plain(takes), func() *unify.Node { return c.expr(n.Kids[0], row) })
	return unify.Fn(takes, row, gives)
}

func (c *checker) apply(n api.Node, around unify.Row) *unify.Node {
	function, argument := n.Kids[0], n.Kids[1]
	what, given := c.expr(function, around), c.expr(argument, around)
	takes, row, gives := unify.New(), unify.NewRow(), unify.New()
	c.same(what, unify.Fn(takes, row, gives), function.At)
	c.same(takes, given, argument.At)
	sameRow(row, around, n.At)
	return gives
}

func (c *checker) let(n api.Node, around unify.Row) *unify.Node {
	b := plain(c.bound(n, around))
	if isValue(n.Kids[0].Kind) {
		b = c.general(b.node)
	}
	return c.under(n.Name, b, func() *unify.Node { return c.expr(n.Kids[1], around) })
}

// isValue tells whether nothing is done when such an expression is evaluated: only what it binds may be general.
func isValue(kind int) bool {
	switch kind {
	case api.EInt, api.EBool, api.EUnit, api.ENil, api.EVar, api.EFn:
		return true
	}
	return false
}

func (c *checker) choose(n api.Node, around unify.Row) *unify.Node {
	c.made(n.Kids[0], around, unify.Of(api.TyBool))
	t := c.expr(n.Kids[1], around)
	c.made(n.Kids[2], around, t)
	return t
}

// half is the first or the second of a pair.
func (c *checker) half(n api.Node, around unify.Row, which int) *unify.Node {
	pair := unify.Of(api.TyPair, unify.New(), unify.New())
	c.made(n.Kids[0], around, pair)
	return pair.Args[which]
}

func (c *checker) cons(n api.Node, around unify.Row) *unify.Node {
	list := unify.Of(api.TyList, c.expr(n.Kids[0], around))
	c.made(n.Kids[1], around, list)
	return list
}

func (c *checker) cases(n api.Node, around unify.Row) *unify.Node {
	element := unify.New()
	list := unify.Of(api.TyList, element)
	c.made(n.Kids[0], around, list)
	t := c.expr(n.Kids[1], around)
	last := c.underTwo(n.Kids[2:], plain(element), plain(list), around)
	c.same(last, t, n.Kids[4].At)
	return t
}

// underTwo looks at the last of three kids with the names of the two ahead of it in sight.
func (c *checker) underTwo(kids []api.Node, first, second binding, around unify.Row) *unify.Node {
	return c.under(kids[0].Name, first, func() *unify.Node {
		return c.under(kids[1].Name, second, func() *unify.Node { return c.expr(kids[2], around) })
	})
}

func (c *checker) sign(n api.Node, around unify.Row) *unify.Node {
	number := unify.Of(api.TyInt)
	c.made(n.Kids[0], around, number)
	c.made(n.Kids[1], around, number)
	if n.Name == "<" || n.Name == "==" {
		return unify.Of(api.TyBool)
	}
	return number
}
