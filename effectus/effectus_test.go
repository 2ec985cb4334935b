package effectus_test

import (
	"reflect"
	"strings"
	"testing"

	"effectus/api"
	"effectus/code"
	"effectus/core"
	"effectus/effectus"
	"effectus/emit"
	"effectus/infer"
	"effectus/machine"
	"effectus/marks"
)

// checkFault: all three have the fault of Emit, and nothing else.
func checkFault(t *testing.T, text string) {
	t.Helper()
	_, want := emit.Emit(text)
	if want.Kind == api.OK {
		t.Errorf("%.60s: has a code", text)
	}
	if bytes, fault := effectus.Compile(text); fault != want || bytes != "" {
		t.Errorf("%.60s: Compile: %q %v, want %v", text, bytes, fault, want)
	}
	for _, cells := range []int{100, -1, api.MaxHeap + 1} {
		if o, fault := effectus.Run(text, cells, 100); fault != want || o != (api.Outcome{}) {
			t.Errorf("%.60s: Run: %v %v, want %v", text, o, fault, want)
		}
	}
	if r, fault := effectus.Look(text); fault != want || !reflect.DeepEqual(r, api.Report{}) {
		t.Errorf("%.60s: Look: %v %v, want %v", text, r, fault, want)
	}
}

func TestFaults(t *testing.T) {
	for text, want := range map[string]api.Fault{
		"": {Kind: api.ErrSyntax}, "main = y": {Kind: api.ErrName, At: 7}, "main = 1 + ()": {Kind: api.ErrType, At: 11}, "main = 1 +": {Kind: api.ErrSyntax, At: 10}, "main = 1 $": {Kind: api.ErrByte, At: 9}, "main = 007": {Kind: api.ErrToken, At: 7}, "\xff": {Kind: api.ErrByte},
		"op once get : unit => int main = do get ()": {Kind: api.ErrRow, At: 33}, strings.Repeat(" ", api.MaxText+1): {Kind: api.ErrLong}, "def f x = x def f x = x main = 1": {Kind: api.ErrTwice, At: 12}, "def f " + strings.Repeat("a ", api.MaxType) + "= 1 main = 1": {Kind: api.ErrBig},
		"main = " + strings.Repeat("(", api.MaxDepth) + "1" + strings.Repeat(")", api.MaxDepth): {Kind: api.ErrDeep, At: 7 + api.MaxDepth},
	} {
		checkFault(t, text)
		if _, fault := effectus.Compile(text); fault != want {
			t.Errorf("%.60s: %v, want %v", text, fault, want)
		}
	}
}

// someTexts are programs that come to their end.
func someTexts() []string {
	return []string{
		"main = 1", "main = [(1, fn x => x)]", "def rec f n = if n < 1 then 0 else n + f (n - 1) main = f 10", "op once get : unit => int main = handle do get () + 1 with { return x => x | get u k => k 4 + k 4 }",
		"def rec len l = case l of [] => 0 | x :: r => 1 + len r end def rec map f l = case l of [] => [] | x :: r => f x :: map f r end main = len (map (fn x => x) [])",
		"op many flip : unit => bool def not b = if b then false else true main = handle not (do flip ()) with { return x => x | flip u k => k true }",
	}
}

// TestCompile: the bytes are those of a code that can be run, and that Emit answers.
func TestCompile(t *testing.T) {
	for _, text := range someTexts() {
		c, fault := code.Decode(compiled(t, text))
		if want, _ := emit.Emit(text); fault != (api.Fault{}) || code.Check(c) != (api.Fault{}) || !reflect.DeepEqual(c, want) {
			t.Errorf("%s: %v %v", text, c, fault)
		}
	}
}

// TestRun: it plays what Compile answers, with all cells and all fuel that may be, and refuses other cells.
func TestRun(t *testing.T) {
	for _, text := range someTexts() {
		bytes := compiled(t, text)
		for _, cells := range []int{-1, 0, 1, 10, 20, 100, 10000, api.MaxHeap, api.MaxHeap + 1} {
			for _, fuel := range []int{-1, 0, 1, 10, 50, 500, api.MaxFuel, api.MaxFuel + 1} {
				want, wantFault := machine.Play(bytes, cells, fuel)
				if got, fault := effectus.Run(text, cells, fuel); got != want || fault != wantFault {
					t.Errorf("%s on %d cells with %d: %v %v, want %v %v", text, cells, fuel, got, fault, want, wantFault)
				}
			}
		}
	}
	for _, cells := range []int{-1, api.MaxHeap + 1} {
		if o, fault := effectus.Run("main = 1", cells, 10); fault != (api.Fault{Kind: api.ErrArg}) || o != (api.Outcome{}) {
			t.Errorf("%d cells: %v %v", cells, o, fault)
		}
	}
	for fuel, want := range map[int]int{-1: api.Going, 0: api.Going, 1: api.Going, 2: api.Done, api.MaxFuel + 1: api.Done} {
		if o, fault := effectus.Run("main = 1", 0, fuel); fault != (api.Fault{}) || o.Kind != want || o.Steps != max(0, min(fuel, 2)) {
			t.Errorf("with %d: %v %v", fuel, o, fault)
		}
	}
	if o, fault := effectus.Run("def rec loop i = loop (i + 1) main = loop 0", 10, api.MaxFuel+5); fault != (api.Fault{}) || o != (api.Outcome{Steps: api.MaxFuel}) {
		t.Errorf("%v %v", o, fault)
	}
}

func termsOf(t api.Term) int {
	n := 1
	for _, kid := range t.Kids {
		n += termsOf(kid)
	}
	return n
}

// TestLook: it tells what the layers say.
func TestLook(t *testing.T) {
	texts := someTexts()
	for seed := range int64(200) {
		texts = append(texts, newMaker(seed).text(3))
	}
	for _, text := range texts {
		term, fault := core.Core(text)
		if fault.Kind != api.OK {
			continue
		}
		want := api.Report{Terms: termsOf(term), Bytes: len(compiled(t, text))}
		want.Types, _ = infer.Infer(text)
		list, _ := marks.Marks(text)
		for _, calm := range list {
			if calm {
				want.Calm++
			}
		}
		if got, fault := effectus.Look(text); fault != (api.Fault{}) || !reflect.DeepEqual(got, want) {
			t.Errorf("%s: %v %v, want %v", text, got, fault, want)
		}
	}
}

// TestReports: what is told of some programs, counted by hand.
func TestReports(t *testing.T) {
	for text, want := range map[string]api.Report{
		"main = 1":                                     {Terms: 1, Calm: 1, Types: []api.Typing{{Name: "main", Type: "int"}}},
		"main = (fn x => x) 1":                         {Terms: 4, Calm: 3, Types: []api.Typing{{Name: "main", Type: "int"}}},
		"def f x = x + 1 main = [f 2]":                 {Terms: 10, Calm: 10, Types: []api.Typing{{Name: "f", Type: "int -{| r1}-> int"}, {Name: "main", Type: "int list"}}},
		"op once a : int => int main = fn x => do a x": {Terms: 3, Calm: 2, Types: []api.Typing{{Name: "main", Type: "int -{a | r1}-> int"}}},
	} {
		got, fault := effectus.Look(text)
		want.Bytes = len(compiled(t, text))
		if fault != (api.Fault{}) || !reflect.DeepEqual(got, want) {
			t.Errorf("%s: %v %v, want %v", text, got, fault, want)
		}
	}
}
