package infer

import (
	"effectus/api"
	"effectus/unify"
)

// operations declares them. A row of a type may name those that come behind it, too.
func (c *checker) operations(all []api.Node) {
	declared := map[string]int{}
	for _, n := range all {
		declared[n.Name]++
	}
	for _, n := range all {
		if _, twice := c.ops[n.Name]; twice {
			refuse(api.ErrTwice, n.At)
		}
		op := operation{takes: written(n.Kids[0], declared), gives: written(n.Kids[1], declared)}
		c.fits(op.takes, n.At)
		c.fits(op.gives, n.At)
		c.ops[n.Name] = op
	}
}

// written reads a type as it is written. It has no variables, and so can be used again and again.
func written(n api.Node, declared map[string]int) *unify.Node {
	switch n.Kind {
	case api.YInt:
		return unify.Of(api.TyInt)
	case api.YBool:
		return unify.Of(api.TyBool)
	case api.YUnit:
		return unify.Of(api.TyUnit)
	case api.YList:
		return unify.Of(api.TyList, written(n.Kids[0], declared))
	case api.YPair:
		first := written(n.Kids[0], declared)
		return unify.Of(api.TyPair, first, written(n.Kids[1], declared))
	case api.YFn:
		takes := written(n.Kids[0], declared)
		row := writtenRow(n.Kids[2:], declared) // it stands ahead of what the function gives
		return unify.Fn(takes, row, written(n.Kids[1], declared))
	}
	refuse(api.ErrArg, 0)
	return nil
}

func writtenRow(names []api.Node, declared map[string]int) unify.Row {
	var ops []string
	seen := map[string]int{}
	for _, n := range names {
		if declared[n.Name] == 0 {
			refuse(api.ErrName, n.At)
		}
		if seen[n.Name]++; seen[n.Name] > 1 {
			refuse(api.ErrTwice, n.At)
		}
		ops = append(ops, n.Name)
	}
	return unify.OnlyRow(ops...)
}
