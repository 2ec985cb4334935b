package trees_test

import (
	"strings"
	"testing"

	"effectus/api"
	"effectus/core"
	"effectus/marks"
	"effectus/meaning"
	"effectus/syntax"
	"effectus/trees"
)

// someOps stand ahead of the texts that do something.
const someOps = "op once get : unit => int op many flip : unit => bool op once ask : int => int op many fork : int => int "

// opsOf tells of each operation of a text whether it is a once one, and the names of those.
func opsOf(text string) ([]bool, []string) {
	tree, _ := syntax.Parse(text)
	var once []bool
	var names []string
	for _, n := range tree.Kids[:tree.N] {
		once = append(once, n.N == 1)
		if n.N == 1 {
			names = append(names, n.Name)
		}
	}
	return once, names
}

// made is the pure term of a text, which has the right form, and not too many terms of computations (P8.2, P8.4).
func made(t *testing.T, text string) api.Term {
	t.Helper()
	pure, fault := trees.Tree(text)
	if fault != (api.Fault{}) {
		t.Fatalf("%.60s.. %.60s: %v", text, text[fault.At:], fault)
	}
	_, onces := opsOf(text)
	wrongs, counts := formOf(pure, onces)
	if len(wrongs) > 0 {
		t.Errorf("%s:\n%s", text, strings.Join(wrongs, "\n"))
	}
	if got, most := counts[api.TRet]+counts[api.TAct]+counts[api.TOn]+counts[api.TOnce], mostOf(text); got > most {
		t.Errorf("%s: %d terms of computations, at most %d", text, got, most)
	}
	return pure
}

// mostOf is how many TRets, TActs, TOns and TOnces the pure term of a text may have.
func mostOf(text string) int {
	term, _ := core.Core(text)
	list, _ := marks.Marks(text)
	u := 0
	for _, calm := range list {
		if !calm {
			u++
		}
	}
	if u == 0 {
		return 0
	}
	functions, clauses := functionsAndClauses(term)
	return 12 * (u + functions + clauses)
}

func functionsAndClauses(t api.Term) (int, int) {
	functions, clauses := 0, 0
	switch t.Op {
	case api.TFn:
		functions = 1
	case api.THandle:
		clauses = len(t.Kids) - 2
	}
	for _, kid := range t.Kids {
		f, c := functionsAndClauses(kid)
		functions, clauses = functions+f, clauses+c
	}
	return functions, clauses
}

// checked is a text that was run, and its pure term that was played.
type checked struct {
	text, pure api.Outcome
	waiting    int
}

// checkTree: the pure term of a text comes to the same as the text, neither too late nor too early (P8.3).
func checkTree(t *testing.T, text string, fuel int) checked {
	t.Helper()
	pure := made(t, text)
	want, _ := meaning.Run(text, fuel)
	if want.Kind == api.Going {
		return checked{want, checkGoing(t, text, pure, fuel), 0}
	}
	once, _ := opsOf(text)
	term, _ := core.Core(text)
	_, waiting := play(term, once, api.MaxFuel)
	got, _ := play(pure, nil, 40*(want.Steps+1)*(waiting+1))
	if got.Kind != want.Kind || got.Op != want.Op || got.Value != want.Value {
		t.Errorf("%s:\n got %v\nwant %v, with %d waiting", text, got, want, waiting)
	}
	if want.Steps > 4*(got.Steps+1) {
		t.Errorf("%s: the pure term takes %d steps, the text %d", text, got.Steps, want.Steps)
	}
	return checked{want, got, waiting}
}

// checkGoing: what has not ended with so much fuel has no pure term that ends in less than a fourth of it.
func checkGoing(t *testing.T, text string, pure api.Term, fuel int) api.Outcome {
	t.Helper()
	got, _ := play(pure, nil, max(0, fuel/4-1))
	if got.Kind != api.Going {
		t.Errorf("%s: with %d the text is Going, but the pure term %v", text, fuel, got)
	}
	return got
}
