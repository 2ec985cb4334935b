package rows

import (
	"slices"

	"effectus/api"
)

// maxNumber is the greatest number that a variable has.
const maxNumber = 1000000000

func checkPairs(pairs []api.Pair) api.Fault {
	if len(pairs) > api.MaxPairs {
		return api.Fault{Kind: api.ErrArg, At: api.MaxPairs}
	}
	for i, pair := range pairs {
		if !proper(pair.A) || !proper(pair.B) {
			return api.Fault{Kind: api.ErrArg, At: i}
		}
	}
	return api.Fault{}
}

func proper(t api.Type) bool {
	return partsLeft(t, api.MaxType) >= 0
}

// partsLeft answers how many of some parts a type leaves, below 0 if they are too few or it is not proper.
// It counts a part before it goes into it, since a type that is handed over may stand within itself.
func partsLeft(t api.Type, left int) int {
	left -= 1 + len(t.Ops)
	if left < 0 || !properAlone(t) {
		return -1
	}
	for _, arg := range t.Args {
		left = partsLeft(arg, left)
		if left < 0 {
			return -1
		}
	}
	return left
}

// properAlone looks at all of a type but what its Args are.
func properAlone(t api.Type) bool {
	if t.Kind < api.TyVar || t.Kind > api.TyFn || len(t.Args) != argsOf(t.Kind) {
		return false
	}
	return properNumber(t) && properRow(t)
}

func argsOf(kind int) int {
	switch kind {
	case api.TyList:
		return 1
	case api.TyPair, api.TyFn:
		return 2
	}
	return 0
}

func properNumber(t api.Type) bool {
	if t.Kind != api.TyVar {
		return t.N == 0
	}
	return t.N >= 1 && t.N <= maxNumber
}

func properRow(t api.Type) bool {
	if t.Kind != api.TyFn {
		return len(t.Ops) == 0 && t.Row == 0
	}
	if t.Row < 0 || t.Row > maxNumber || slices.Contains(t.Ops, "") {
		return false
	}
	return slices.IsSorted(t.Ops)
}
