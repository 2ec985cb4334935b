package trees_test

import (
	"reflect"
	"slices"
	"strings"
	"testing"

	"effectus/api"
	"effectus/infer"
	"effectus/lexer"
	"effectus/trees"
)

// TestMade: the pure terms of made programs have the right form, and come to what the programs mean.
func TestMade(t *testing.T) {
	kinds := map[int]int{}
	faults, onces := 0, 0
	for seed := range int64(2500) {
		text := newMaker(seed).text()
		if _, fault := infer.Infer(text); fault.Kind != api.OK {
			checkFault(t, text)
			faults++
			continue
		}
		kinds[checkTree(t, text, 3000).text.Kind]++
		_, counts := formOf(made(t, text), nil)
		onces += counts[api.TOnce]
	}
	t.Log(kinds, faults, onces)
	if kinds[api.Done] < 2000 || kinds[api.Spent] < 40 || kinds[api.Going] < 50 || faults > 250 || onces < 2000 {
		t.Errorf("%v: %d faults, %d TOnces", kinds, faults, onces)
	}
}

// TestSameTree: how a text is written changes places alone.
func TestSameTree(t *testing.T) {
	for seed := range int64(200) {
		text := newMaker(seed).text()
		pure, fault := trees.Tree(text)
		if fault.Kind != api.OK {
			continue
		}
		tokens, _ := lexer.Tokens(text)
		longer, ahead := "", 0
		for _, token := range tokens {
			longer += text[ahead:token.At] + "\n"
			ahead = token.At
		}
		if again, fault := trees.Tree(longer); len(longer) <= api.MaxText && (fault.Kind != api.OK || !reflect.DeepEqual(unplaced(again), unplaced(pure))) {
			t.Errorf("%s: with more blanks it is %v, not %v", text, again, pure)
		}
	}
}

// unplaced is a term without places.
func unplaced(t api.Term) api.Term {
	t.At = 0
	t.Kids = slices.Clone(t.Kids)
	for i, kid := range t.Kids {
		t.Kids[i] = unplaced(kid)
	}
	return t
}

// TestPlaces: each term stands where one of the text's does.
func TestPlaces(t *testing.T) {
	text := someOps + "def f x = x main = handle f (do ask (f 1)) with { return x => x | ask v k => k (f v) }"
	tokens, _ := lexer.Tokens(text)
	var walk func(api.Term)
	walk = func(p api.Term) {
		if !slices.ContainsFunc(tokens, func(token api.Token) bool { return token.At == p.At }) || p.At < len(someOps) {
			t.Errorf("a term with op %d at %d: %.10s", p.Op, p.At, text[p.At:])
		}
		for _, kid := range p.Kids {
			walk(kid)
		}
	}
	walk(made(t, text))
}

// TestNewMemory: no two lists of an answer share memory, and what is done to one answer changes no other.
func TestNewMemory(t *testing.T) {
	for seed := range int64(200) {
		text := newMaker(seed).text()
		first, _ := trees.Tree(text)
		second, _ := trees.Tree(text)
		third, _ := trees.Tree(text)
		if !reflect.DeepEqual(first, second) {
			t.Fatalf("%s: %v, then %v", text, first, second)
		}
		spoil(first)
		if !reflect.DeepEqual(second, third) {
			t.Errorf("%s: %v, was %v", text, second, third)
		}
		terms, numbers := map[*api.Term]int{}, map[*int]int{}
		places(second, terms, numbers)
		for _, times := range terms {
			if times != 1 {
				t.Errorf("%s: a term stands in two lists", text)
			}
		}
		for _, times := range numbers {
			if times != 1 {
				t.Errorf("%s: a number stands in two lists", text)
			}
		}
	}
}

// spoil changes all that lists have, and have room for.
func spoil(t api.Term) {
	for _, kid := range t.Kids {
		spoil(kid)
	}
	for i := range t.Kids[:cap(t.Kids)] {
		t.Kids[:cap(t.Kids)][i] = api.Term{Op: -1}
	}
	for i := range t.Ns[:cap(t.Ns)] {
		t.Ns[:cap(t.Ns)][i] = -1
	}
}

// places counts in how many lists each place of memory stands.
func places(t api.Term, terms map[*api.Term]int, numbers map[*int]int) {
	for i := range t.Kids[:cap(t.Kids)] {
		terms[&t.Kids[:cap(t.Kids)][i]]++
	}
	for i := range t.Ns[:cap(t.Ns)] {
		numbers[&t.Ns[:cap(t.Ns)][i]]++
	}
	for _, kid := range t.Kids {
		places(kid, terms, numbers)
	}
}

// TestFormer: what is not pure, or has another form, is seen.
func TestFormer(t *testing.T) {
	x, one := api.Term{Op: api.TVar, N: 1}, api.Term{Op: api.TInt, N: 1}
	identity := api.Term{Op: api.TFn, N: 1, Kids: []api.Term{x}}
	for i, wrong := range []api.Term{
		{Op: api.TDo, Kids: []api.Term{one}}, {Op: api.THandle, N: 1, Kids: []api.Term{one, one}}, {Op: -1}, {Op: api.TOnce + 1}, x, {Op: api.TVar}, {Op: api.TBool, N: 2}, {Op: api.TUnit, N: 1}, {Op: api.TInt, S: "+"}, {Op: api.TInt, Ns: []int{1}},
		{Op: api.TFn, N: 0, Kids: []api.Term{one}}, {Op: api.TFn, N: -1, Kids: []api.Term{one}}, {Op: api.TFn, N: 1}, {Op: api.TFn, N: 2, Kids: []api.Term{x}}, {Op: api.TApp, Kids: []api.Term{identity, x}}, {Op: api.TLet, N: 1, Kids: []api.Term{x, x}}, {Op: api.TLet, Kids: []api.Term{one, x}},
		{Op: api.TLet, N: -1, Kids: []api.Term{one, one}}, {Op: api.TRec, N: 1, Kids: []api.Term{one, x}}, {Op: api.TRec, Kids: []api.Term{identity, one}}, {Op: api.TIf, Kids: []api.Term{one, one}}, {Op: api.TOp, Kids: []api.Term{one, one}}, {Op: api.TOp, S: "/", Kids: []api.Term{one, one}},
		{Op: api.TCase, Ns: []int{1}, Kids: []api.Term{one, one, one}}, {Op: api.TCase, Ns: []int{1, 2}, Kids: []api.Term{one, x, one}}, {Op: api.TCase, Ns: []int{1, 2}, Kids: []api.Term{x, one, one}}, {Op: api.TCase, Ns: []int{-1, 2}, Kids: []api.Term{one, one, one}},
		{Op: api.TOn, Ns: []int{1, 2, 3}, Kids: []api.Term{one, x, one}}, {Op: api.TOn, Ns: []int{1, 2, 3, 4}, Kids: []api.Term{one, one, x}}, {Op: api.TOn, Ns: []int{2, 1, 1, 1}, Kids: []api.Term{one, x, one}}, {Op: api.TOn, Ns: []int{0, 0, 0, 0}, Kids: []api.Term{one, x, one}},
		{Op: api.TOnce, S: "b", Kids: []api.Term{identity}}, {Op: api.TOnce, Kids: []api.Term{identity}}, {Op: api.TRet}, {Op: api.TAct, Kids: []api.Term{one, one}},
	} {
		if wrongs, _ := formOf(wrong, []string{"a"}); len(wrongs) == 0 {
			t.Errorf("%d: %v has the form of a pure term", i, wrong)
		}
	}
	for _, right := range []api.Term{
		one, identity, {Op: api.TLet, Kids: []api.Term{one, one}}, {Op: api.TOnce, S: "a", Kids: []api.Term{identity}}, {Op: api.TRec, N: 1, Kids: []api.Term{{Op: api.TFn, N: 2, Kids: []api.Term{x}}, x}},
		{Op: api.TCase, Ns: []int{0, 1}, Kids: []api.Term{one, one, x}}, {Op: api.TOn, Ns: []int{0, 0, 0, 1}, Kids: []api.Term{one, one, x}}, {Op: api.TOn, Ns: []int{1, 0, 0, 0}, Kids: []api.Term{one, x, one}},
	} {
		if wrongs, _ := formOf(right, []string{"a"}); len(wrongs) > 0 {
			t.Errorf("%v: %s", right, strings.Join(wrongs, "\n"))
		}
	}
}

// TestPlayer: a computation is no value of a program, nor is another value a computation.
func TestPlayer(t *testing.T) {
	x, one := api.Term{Op: api.TVar, N: 1}, api.Term{Op: api.TInt, N: 1}
	identity := api.Term{Op: api.TFn, N: 1, Kids: []api.Term{x}}
	ret := api.Term{Op: api.TRet, Kids: []api.Term{one}}
	act := api.Term{Op: api.TAct, Kids: []api.Term{one, one, identity}}
	on := func(computation api.Term) api.Term {
		return api.Term{Op: api.TOn, Ns: []int{1, 2, 3, 1}, Kids: []api.Term{computation, x, {Op: api.TPair, Kids: []api.Term{{Op: api.TVar, N: 2}, x}}}}
	}
	apply := func(f, x api.Term) api.Term { return api.Term{Op: api.TApp, Kids: []api.Term{f, x}} }
	once := func(f api.Term) api.Term { return api.Term{Op: api.TOnce, S: "a", Kids: []api.Term{f}} }
	let := api.Term{Op: api.TLet, N: 1, Kids: []api.Term{once(identity), apply(x, apply(x, one))}}
	for i, row := range []struct {
		term api.Term
		want api.Outcome
	}{
		{on(ret), api.Outcome{Kind: api.Done, Value: "1", Steps: 4}}, {on(act), api.Outcome{Kind: api.Done, Value: "(1, fn)", Steps: 8}}, {apply(once(identity), one), api.Outcome{Kind: api.Done, Value: "1", Steps: 5}},
		{let, api.Outcome{Kind: api.Spent, Op: "a", Steps: 9}}, {ret, api.Outcome{Kind: api.Wrong, Steps: 2}}, {act, api.Outcome{Kind: api.Wrong, Steps: 4}}, {on(one), api.Outcome{Kind: api.Wrong, Steps: 2}}, {apply(ret, one), api.Outcome{Kind: api.Wrong, Steps: 4}},
		{once(one), api.Outcome{Kind: api.Wrong, Steps: 2}}, {x, api.Outcome{Kind: api.Wrong, Steps: 1}}, {api.Term{Op: api.TDo, Kids: []api.Term{one}}, api.Outcome{Kind: api.Wrong, Steps: 2}},
	} {
		if got, _ := play(row.term, nil, 100); got != row.want {
			t.Errorf("%d: %v, want %v", i, got, row.want)
		}
	}
}

func FuzzTree(f *testing.F) {
	for seed := range int64(20) {
		f.Add(newMaker(seed).text())
	}
	f.Fuzz(func(t *testing.T, text string) {
		if _, fault := infer.Infer(text); fault.Kind != api.OK {
			checkFault(t, text)
			return
		}
		checkTree(t, text, 500)
	})
}
