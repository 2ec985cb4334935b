package core_test

import (
	"slices"
	"testing"

	"effectus/api"
	"effectus/core"
	"effectus/syntax"
)

// walker goes through a tree and its term side by side, by the rules of the document: what it comes by is to be what the rules
// say there, and nothing more.
type walker struct {
	ops    []string
	last   int // the last number that was to be asked for
	wrongs []string
}

// seen is a name that has a number. In a row of them the nearest one is the last.
type seen struct {
	name   string
	number int
}

// checkTerm holds the term of a text that has types against the text's tree.
func checkTerm(t *testing.T, text string) api.Term {
	t.Helper()
	term, fault := core.Core(text)
	if fault != (api.Fault{}) {
		t.Errorf("%.200s: %v", text, fault)
		return term
	}
	tree, _ := syntax.Parse(text)
	var w walker
	for _, n := range tree.Kids[:tree.N] {
		w.ops = append(w.ops, n.Name)
	}
	w.program(tree.Kids[tree.N:], term, nil)
	if len(w.wrongs) > 0 {
		t.Errorf("%s:\n%v\nin %s", text, w.wrongs, written(term, true))
	}
	return term
}

// program walks through defs and a main.
func (w *walker) program(nodes []api.Node, t api.Term, sight []seen) {
	if len(nodes) == 1 {
		w.walk(nodes[0], t, sight)
		return
	}
	w.let(nodes[0], t, sight, func(rest api.Term, sight []seen) { w.program(nodes[1:], rest, sight) })
}

// is tells of a term that is not as its rule says; kids aside.
func (w *walker) is(t api.Term, want api.Term, kids int) bool {
	same := t.Op == want.Op && t.N == want.N && t.Of == want.Of && t.At == want.At && t.S == want.S && slices.Equal(t.Ns, want.Ns) && len(t.Kids) == kids
	if !same {
		w.wrongs = append(w.wrongs, written(t, true)+" with another number of kids, or for "+written(want, true))
	}
	return same
}

func (w *walker) next(name string) seen {
	w.last++
	return seen{name, w.last}
}

func (w *walker) walk(n api.Node, t api.Term, sight []seen) {
	switch n.Kind {
	case api.EVar:
		w.is(t, api.Term{Op: api.TVar, N: numberOf(n.Name, sight), At: n.At}, 0)
	case api.EFn:
		parameter := w.next(n.Name)
		if w.is(t, api.Term{Op: api.TFn, N: parameter.number, At: n.At}, 1) {
			w.walk(n.Kids[0], t.Kids[0], slices.Concat(sight, []seen{parameter}))
		}
	case api.ELet:
		w.let(n, t, sight, func(rest api.Term, sight []seen) { w.walk(n.Kids[1], rest, sight) })
	case api.ECase:
		w.cases(n, t, sight)
	case api.EHandle:
		w.handler(n, t, sight)
	default:
		w.plain(n, t, sight)
	}
}

func numberOf(name string, sight []seen) int {
	for _, s := range slices.Backward(sight) {
		if s.name == name {
			return s.number
		}
	}
	return -1
}

// plain walks through what binds no names.
func (w *walker) plain(n api.Node, t api.Term, sight []seen) {
	want := api.Term{At: n.At, Op: map[int]int{
		api.EInt: api.TInt, api.EBool: api.TBool, api.EUnit: api.TUnit, api.ENil: api.TNil, api.EApp: api.TApp, api.EIf: api.TIf, api.EPair: api.TPair,
		api.EFst: api.TFst, api.ESnd: api.TSnd, api.ECons: api.TCons, api.EOp: api.TOp, api.ESeq: api.TLet, api.EDo: api.TDo,
	}[n.Kind]}
	switch n.Kind {
	case api.EInt, api.EBool:
		want.N = n.N
	case api.EOp:
		want.S = n.Name
	case api.EDo:
		want.N, want.S = slices.Index(w.ops, n.Name), n.Name
	}
	if w.is(t, want, len(n.Kids)) {
		for i, kid := range n.Kids {
			w.walk(kid, t.Kids[i], sight)
		}
	}
}

func (w *walker) let(n api.Node, t api.Term, sight []seen, rest func(api.Term, []seen)) {
	want := api.Term{Op: api.TLet, At: n.At, N: t.N}
	if n.N == 1 {
		want.Op = api.TRec
	}
	if !w.is(t, want, 2) {
		return
	}
	if n.N == 0 {
		w.walk(n.Kids[0], t.Kids[0], sight)
	}
	name := w.next(n.Name)
	want.N = name.number
	sight = slices.Concat(sight, []seen{name})
	if n.N == 1 {
		w.walk(n.Kids[0], t.Kids[0], sight)
	}
	if w.is(t, want, 2) {
		rest(t.Kids[1], sight)
	}
}

func (w *walker) cases(n api.Node, t api.Term, sight []seen) {
	if !w.is(t, api.Term{Op: api.TCase, At: n.At, Ns: t.Ns}, 3) {
		return
	}
	w.walk(n.Kids[0], t.Kids[0], sight)
	w.walk(n.Kids[1], t.Kids[1], sight)
	two := []seen{w.next(n.Kids[2].Name), w.next(n.Kids[3].Name)}
	if w.is(t, api.Term{Op: api.TCase, At: n.At, Ns: []int{two[0].number, two[1].number}}, 3) {
		w.walk(n.Kids[4], t.Kids[2], slices.Concat(sight, two))
	}
}

func (w *walker) handler(n api.Node, t api.Term, sight []seen) {
	if !w.is(t, api.Term{Op: api.THandle, At: n.At, Of: n.N, N: t.N, Ns: t.Ns}, len(n.Kids)) {
		return
	}
	w.walk(n.Kids[0], t.Kids[0], sight)
	end := w.next(n.Kids[1].Name)
	w.walk(n.Kids[1].Kids[0], t.Kids[1], slices.Concat(sight, []seen{end}))
	var numbers []int
	for i, clause := range n.Kids[2:] {
		two := []seen{w.next(clause.Kids[0].Name), w.next(clause.Kids[1].Name)}
		numbers = append(numbers, slices.Index(w.ops, clause.Name), two[0].number, two[1].number)
		w.walk(clause.Kids[2], t.Kids[2+i], slices.Concat(sight, two))
	}
	w.is(t, api.Term{Op: api.THandle, At: n.At, Of: n.N, N: end.number, Ns: numbers}, len(n.Kids))
}
