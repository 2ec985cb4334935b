package syntax

import "effectus/api"

// maxParts bounds the nodes of a tree that was read: each of the text's tokens makes at most two of them, three if it is a `[`, whose `]` makes none.
const maxParts = 2 * api.MaxText

// sound tells whether each node has the kids that its kind asks for, and there are no more nodes than left: any other tree may be without an end, since it may stand within itself.
func sound(n api.Node, left *int) bool {
	*left--
	if *left < 0 || len(n.Name) > api.MaxName || !hasItsKids(n) {
		return false
	}
	for _, kid := range n.Kids {
		if !sound(kid, left) {
			return false
		}
	}
	return true
}

func hasItsKids(n api.Node) bool {
	count := len(n.Kids)
	switch n.Kind {
	case api.Prog:
		return count >= 1
	case api.EHandle, api.YFn:
		return count >= 2
	case api.EInt, api.EBool, api.EUnit, api.EVar, api.ENil, api.PName, api.YInt, api.YBool, api.YUnit:
		return count == 0
	case api.DLet:
		return count == 1 && n.Kids[0].Kind == api.EFn
	case api.EFn, api.EFst, api.ESnd, api.EDo, api.CReturn, api.YList:
		return count == 1
	case api.ELet:
		return count == 2 && (!hasParameter(n) || n.Kids[0].Kind == api.EFn)
	case api.DOp, api.EApp, api.ESeq, api.EPair, api.ECons, api.EOp, api.YPair:
		return count == 2
	case api.EIf, api.COp:
		return count == 3
	case api.ECase:
		return count == 5
	}
	return false
}

// hasParameter tells whether a def or a let is written with a parameter ahead of its `=`.
func hasParameter(n api.Node) bool {
	return n.Kind == api.DLet || n.N == 1
}
