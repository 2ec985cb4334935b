package core_test

import (
	"reflect"
	"strings"
	"testing"

	"effectus/api"
	"effectus/core"
	"effectus/infer"
	"effectus/lexer"
	"effectus/meaning"
	"effectus/syntax"
)

// checkPlayed: a text and its term come to the same, the term with as many steps more as there are defs.
func checkPlayed(t *testing.T, text string, fuel int) api.Outcome {
	t.Helper()
	tree, _ := syntax.Parse(text)
	var once []bool
	for _, n := range tree.Kids[:tree.N] {
		once = append(once, n.N == 1)
	}
	defs := len(tree.Kids) - tree.N - 1
	want, _ := meaning.Run(text, fuel)
	want.Steps += defs
	if got := play(made(t, text), once, fuel+defs); got != want {
		t.Errorf("%s\nwith %d:\n got %v\nwant %v", text, fuel, got, want)
	}
	return want
}

// TestPlayed: what terms of each kind come to is what their texts do, with any fuel.
func TestPlayed(t *testing.T) {
	defs := "def rec append a b = case a of [] => b | x :: r => x :: append r b end def twice f x = f (f x) def rec serve n f = shallow f () with { return x => (n, x) | ask v k => serve (n + v) (fn u => k n) } "
	for _, row := range [][2]string{
		{"~12", "-12"}, {"true", "true"}, {"()", "()"}, {"[[1], []]", "[[1], []]"}, {"(fn x => x, [twice])", "(fn, [fn])"}, {"9223372036854775807 + 1", "-9223372036854775808"}, {"(1 < 2, 2 == 1)", "(true, false)"}, {"2 * 3 - 4 * 5", "-14"},
		{"let x = 1 in let f y = x + y in let x = 10 in f x", "11"}, {"(fn x x => x) 1 2", "2"}, {"let rec f f = f in f 3", "3"}, {"let f x = 1 in let rec f x = if x < 1 then 7 else f (x - 1) in f 3", "7"}, {"let f x = 1 in let f x = if x < 1 then 7 else f (x - 1) in f 3", "1"},
		{"case [5, 6] of [] => [] | x :: x => x end", "[6]"}, {"fst (1; 2, 3) + snd (4, 5)", "7"}, {"twice (twice (fn x => x * 3)) 1", "81"}, {"append [1, 2] [3]", "[1, 2, 3]"},
		{"handle do get () with { return x => x + 1 | get u k => 7 }", "7"}, {"handle do get () + do get () with { return x => x | get u k => k 20 + 1 }", "42"}, {"handle do ask 4 with { return x => x | ask k k => k 9 }", "9"},
		{"let x = 1 in handle (let x = 2 in do ask x) with { return y => x * 100 + y | ask v k => k (v + x) }", "103"},
		{"handle (do flip (), do flip ()) with { return x => [x] | flip u k => append (k true) (k false) }", "[(true, true), (true, false), (false, true), (false, false)]"},
		{"handle (handle do get () with { return x => x | get u k => do get () + k 1 }) with { return x => x | get u k => k 20 }", "21"}, {"handle do fork 1 + 1 with { return x => x | fork v k => k (k (k v)) }", "4"},
		{"shallow do get () + do get () with { return x => x | get u k => handle k 1 with { return y => y * 100 | get v j => j 5 } }", "600"}, {"serve 1 (fn u => [do ask 1, do ask 2, do ask 3])", "(7, [1, 2, 4])"},
		{"handle do get () with { return x => x | get u k => k 1 + k 2 }", ""}, {"let rec loop i = loop (i + 1) in loop 0", ""},
	} {
		text := someOps + defs + "main = " + row[0]
		outcome := checkPlayed(t, text, 20000)
		if outcome.Value != row[1] {
			t.Errorf("%s: %v, want %s", row[0], outcome, row[1])
		}
		for fuel := range min(outcome.Steps, 100) {
			checkPlayed(t, text, fuel)
		}
	}
}

// TestMade: the terms of made programs are what the rules say, and come to what the programs mean.
func TestMade(t *testing.T) {
	kinds := map[int]int{}
	handlers := 0
	for seed := range int64(3000) {
		m := newMaker(seed)
		text := m.text()
		if _, fault := infer.Infer(text); fault.Kind != api.OK {
			checkFault(t, text)
			continue
		}
		term := checkTerm(t, text)
		outcome := checkPlayed(t, text, 2000)
		checkPlayed(t, text, m.Intn(outcome.Steps))
		kinds[outcome.Kind]++
		handlers += strings.Count(written(term, false), "Handle")
	}
	t.Log(kinds, handlers)
	if kinds[api.Done] < 1000 || kinds[api.Spent] < 50 || kinds[api.Going] < 10 || handlers < 5000 {
		t.Errorf("%v, %d handlers", kinds, handlers)
	}
}

// TestSameTree: how a text is written changes places alone, what its names are changes nothing.
func TestSameTree(t *testing.T) {
	for seed := range int64(300) {
		text := newMaker(seed).text()
		term, fault := core.Core(text)
		tokens, _ := lexer.Tokens(text)
		if fault.Kind != api.OK {
			continue
		}
		longer, ahead := "", 0
		for _, token := range tokens[:len(tokens)-1] {
			end := token.At + max(1, len(token.Text))
			longer += text[ahead:end]
			if token.Kind == api.TokName && !strings.Contains("abc", token.Text) {
				longer += "_other"
			}
			ahead = end
		}
		longer += text[ahead:]
		again, fault := core.Core(longer)
		if fault.Kind != api.OK || written(again, false) != written(term, false) {
			t.Errorf("%s: %v %s, want %s", longer, fault, written(again, false), written(term, false))
		}
		tree, _ := syntax.Parse(text)
		printed, fault := core.Core(syntax.Print(tree))
		if fault.Kind != api.OK || written(printed, false) != written(term, false) {
			t.Errorf("%s: printed it is %v %s", text, fault, written(printed, false))
		}
	}
}

// TestNewMemory: no two lists of an answer share memory, and what is done to one answer changes no other.
func TestNewMemory(t *testing.T) {
	for seed := range int64(200) {
		text := newMaker(seed).text()
		first, _ := core.Core(text)
		want := written(first, true)
		second, _ := core.Core(text)
		if !reflect.DeepEqual(first, second) {
			t.Fatalf("%s: %s, then %s", text, want, written(second, true))
		}
		spoil(first)
		if got := written(second, true); got != want {
			t.Errorf("%s: %s, was %s", text, got, want)
		}
		terms, numbers := map[*api.Term]int{}, map[*int]int{}
		places(second, terms, numbers)
		for _, times := range terms {
			if times != 1 {
				t.Errorf("%s: a term stands in two lists", text)
			}
		}
		for _, times := range numbers {
			if times != 1 {
				t.Errorf("%s: a number stands in two lists", text)
			}
		}
	}
}

// spoil changes all that lists have, and have room for.
func spoil(t api.Term) {
	for _, kid := range t.Kids {
		spoil(kid)
	}
	for i := range t.Kids[:cap(t.Kids)] {
		t.Kids[:cap(t.Kids)][i] = api.Term{Op: -1}
	}
	for i := range t.Ns[:cap(t.Ns)] {
		t.Ns[:cap(t.Ns)][i] = -1
	}
}

// places counts in how many lists each place of memory stands.
func places(t api.Term, terms map[*api.Term]int, numbers map[*int]int) {
	for i := range t.Kids[:cap(t.Kids)] {
		terms[&t.Kids[:cap(t.Kids)][i]]++
	}
	for i := range t.Ns[:cap(t.Ns)] {
		numbers[&t.Ns[:cap(t.Ns)][i]]++
	}
	for _, kid := range t.Kids {
		places(kid, terms, numbers)
	}
}

func FuzzCore(f *testing.F) {
	for seed := range int64(20) {
		f.Add(newMaker(seed).text())
	}
	f.Fuzz(func(t *testing.T, text string) {
		if _, fault := infer.Infer(text); fault.Kind != api.OK {
			checkFault(t, text)
			return
		}
		checkTerm(t, text)
		checkPlayed(t, text, 500)
	})
}
