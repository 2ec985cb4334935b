// Package shape tells trees that may be walked from others.
package shape

import "effectus/api"

// maxParts bounds the nodes of a tree that was read: each of the text's tokens makes at most two of them, three if it is a `[`, whose `]` makes none.
const maxParts = 2 * api.MaxText

// Sound tells whether each node of a tree has the kids that its kind asks for, and there are no more nodes than a text has: any other tree may be without an end, since it may stand within itself.
func Sound(n api.Node) bool {
	left := maxParts
	return sound(n, &left)
}

func sound(n api.Node, left *int) bool {
	*left--
	if *left < 0 || len(n.Name) > api.MaxName || !hasItsKids(n) {
		return false
	}
	for _, kid := range n.Kids {
		if !sound(kid, left) {
			return false
		}
	}
	return true
}

func hasItsKids(n api.Node) bool {
	count := len(n.Kids)
	switch n.Kind {
	case api.Prog:
		return n.N >= 0 && n.N < count && allOf(n.Kids[:n.N], api.DOp) && allOf(n.Kids[n.N:count-1], api.DLet)
	case api.EHandle:
		return count >= 2 && n.Kids[1].Kind == api.CReturn && allOf(n.Kids[2:], api.COp)
	case api.YFn:
		return count >= 2 && allOf(n.Kids[2:], api.PName)
	case api.EInt, api.EBool, api.EUnit, api.EVar, api.ENil, api.PName, api.YInt, api.YBool, api.YUnit:
		return count == 0
	case api.DLet:
		return count == 1 && n.Kids[0].Kind == api.EFn
	case api.EFn, api.EFst, api.ESnd, api.EDo, api.CReturn, api.YList:
		return count == 1
	case api.ELet:
		return count == 2 && (n.N != 1 || n.Kids[0].Kind == api.EFn)
	case api.DOp, api.EApp, api.ESeq, api.EPair, api.ECons, api.EOp, api.YPair:
		return count == 2
	case api.EIf, api.COp:
		return count == 3
	case api.ECase:
		return count == 5
	}
	return false
}

func allOf(kids []api.Node, kind int) bool {
	for _, kid := range kids {
		if kid.Kind != kind {
			return false
		}
	}
	return true
}
