package trees_test

import (
	"fmt"
	"slices"
	"strings"

	"effectus/api"
)

// former looks whether a term has the form of a pure one (P8.2).
type former struct {
	onces  []string // the operations declared once
	wrongs []string
	counts map[int]int // how many terms of each op there are
}

// formOf tells what is wrong with a term, and how many terms of each op there are.
func formOf(t api.Term, onces []string) ([]string, map[int]int) {
	f := &former{onces: onces, counts: map[int]int{}}
	f.walk(t, nil)
	return f.wrongs, f.counts
}

func (f *former) is(right bool, t api.Term, what string) {
	if !right {
		f.wrongs = append(f.wrongs, fmt.Sprintf("%s of the term with op %d, N %d, Of %d, S %s, Ns %v and %d kids", what, t.Op, t.N, t.Of, t.S, t.Ns, len(t.Kids)))
	}
}

// kidsAndNs is how many kids and numbers the terms of an op have.
func kidsAndNs(op int) (int, int) {
	switch op {
	case api.TInt, api.TBool, api.TUnit, api.TNil, api.TVar:
		return 0, 0
	case api.TFn, api.TFst, api.TSnd, api.TRet, api.TOnce:
		return 1, 0
	case api.TApp, api.TLet, api.TRec, api.TPair, api.TCons, api.TOp:
		return 2, 0
	case api.TIf, api.TAct:
		return 3, 0
	case api.TCase:
		return 3, 2
	case api.TOn:
		return 3, 4
	}
	return -1, -1
}

// walk goes through a term where some variables are bound.
func (f *former) walk(t api.Term, bound []int) {
	f.counts[t.Op]++
	kids, ns := kidsAndNs(t.Op)
	if f.is(len(t.Kids) == kids && len(t.Ns) == ns, t, "how many kids or numbers"); len(t.Kids) != kids || len(t.Ns) != ns {
		return
	}
	f.has(t, bound)
	for i, kid := range t.Kids {
		inner := binds(t, i)
		for _, n := range inner {
			f.is(n >= 0 && (n > 0 || t.Op == api.TLet || t.Op == api.TOn || t.Op == api.TCase), t, "a variable")
		}
		f.walk(kid, slices.Concat(bound, inner))
	}
}

// has looks at what a term has beside kids.
func (f *former) has(t api.Term, bound []int) {
	named := t.Op == api.TInt || t.Op == api.TBool || t.Op == api.TVar || t.Op == api.TFn || t.Op == api.TLet || t.Op == api.TRec
	f.is((named || t.N == 0) && t.Of == 0 && t.At >= 0, t, "N, Of or At")
	switch t.Op {
	case api.TBool:
		f.is(t.N == 0 || t.N == 1, t, "N")
	case api.TVar:
		f.is(t.N > 0 && slices.Contains(bound, t.N), t, "a variable that is not bound")
	case api.TRec:
		f.is(t.Kids[0].Op == api.TFn, t, "the first kid")
	}
	switch t.Op {
	case api.TOp:
		f.is(slices.Contains(strings.Fields("+ - * < =="), t.S), t, "the sign")
	case api.TOnce:
		f.is(slices.Contains(f.onces, t.S), t, "the operation")
	default:
		f.is(t.S == "", t, "S")
	}
}

// binds are the variables that a term binds in one of its kids.
func binds(t api.Term, kid int) []int {
	switch {
	case t.Op == api.TFn, t.Op == api.TRec, t.Op == api.TLet && kid == 1:
		return []int{t.N}
	case t.Op == api.TCase && kid == 2:
		return t.Ns
	case t.Op == api.TOn && kid == 1:
		return t.Ns[:1]
	case t.Op == api.TOn && kid == 2:
		return t.Ns[1:]
	}
	return nil
}
