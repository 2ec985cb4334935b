package emit_test

import (
	"reflect"
	"testing"

	"effectus/api"
	"effectus/code"
	"effectus/emit"
	"effectus/machine"
	"effectus/syntax"
)

// emitted is the code of a text: one that can be run and written, and that has the text's operations.
func emitted(t testing.TB, text string) api.Code {
	t.Helper()
	c, fault := emit.Emit(text)
	if fault != (api.Fault{}) {
		t.Fatalf("%.60s.. %.60s: %v", text, text[fault.At:], fault)
	}
	if fault := code.Check(c); fault != (api.Fault{}) {
		t.Fatalf("%s: can't be run: %v", text, fault)
	}
	bytes, errno := code.Encode(c)
	if errno != api.OK {
		t.Fatalf("%s: can't be written: %d", text, errno)
	}
	if again, fault := code.Decode(bytes); fault != (api.Fault{}) || !reflect.DeepEqual(again, c) {
		t.Fatalf("%s: is read as another code: %v", text, fault)
	}
	tree, _ := syntax.Parse(text)
	if len(c.Ops) != tree.N {
		t.Fatalf("%s: %d operations, want %d", text, len(c.Ops), tree.N)
	}
	for i, n := range tree.Kids[:tree.N] {
		if want := (api.CodeOp{Name: n.Name, Once: n.N == 1}); c.Ops[i] != want {
			t.Errorf("%s: operation %d is %v, want %v", text, i, c.Ops[i], want)
		}
	}
	return c
}

// played is what a text's code comes to.
func played(t testing.TB, text string) api.Outcome {
	t.Helper()
	bytes, _ := code.Encode(emitted(t, text))
	o, fault := machine.Play(bytes, api.MaxHeap/10, api.MaxFuel)
	if fault != (api.Fault{}) {
		t.Fatalf("%s: %v", text, fault)
	}
	return o
}

// TestOps: the operations are the text's, in their order, also those that are not used.
func TestOps(t *testing.T) {
	want := []api.CodeOp{{Name: "c", Once: true}, {Name: "a"}, {Name: "a_name_of_20_letters", Once: true}, {Name: "b"}}
	const ops = "op once c : int => int op many a : unit => bool op once a_name_of_20_letters : int => int op many b : int list => int * int "
	for _, main := range []string{"1", "fn x => x", "handle do b [1] with { return x => x | b v k => k (1, 2) }", "handle do a () with { return x => x | a u k => k true | c v k => k 1 }"} {
		if c := emitted(t, ops+"main = "+main); !reflect.DeepEqual(c.Ops, want) {
			t.Errorf("%s: %v", main, c.Ops)
		}
	}
	if c := emitted(t, "main = 1"); len(c.Ops) != 0 {
		t.Errorf("%v", c.Ops)
	}
}

// TestVariables: a variable is found wherever it was bound, and from wherever it is asked for.
func TestVariables(t *testing.T) {
	const ops = "op many a : int => int op many s : int => int "
	for main, want := range map[string]string{
		"(fn x => x) 1": "1", "(fn x y => x) 1 2": "1", "(fn x y => y) 1 2": "2", "(fn x y z => (x, (y, z))) 1 2 3": "(1, (2, 3))", "(fn x x => x) 1 2": "2", "let x = 1 in let y = 2 in (x, y)": "(1, 2)", "let x = 1 in let x = x + 1 in x": "2",
		"let x = 1 in (let x = 2 in x, x)": "(2, 1)", "(let x = 1 in x, let y = 2 in y)": "(1, 2)", "let x = (let y = 1 in y + 1) in let z = 5 in (x, z)": "(2, 5)", "let x = 1 in (let y = 2 in x + y) + (let z = 3 in x * z)": "6",
		"let f = (let x = 1 in let y = 2 in fn z => (x, (y, z))) in let a = 8 in let b = 9 in f 3": "(1, (2, 3))", "case [1, 2] of [] => 0 | x :: l => x end": "1", "case [1, 2] of [] => [] | x :: l => l end": "[2]", "case [] of [] => 7 | x :: l => 8 end": "7",
		"case [1, 2] of [] => (0, []) | x :: l => case l of [] => (0, l) | y :: m => (x * 10 + y, m) end end": "(12, [])", "case [1] of [] => [] | x :: l => let y = 5 in (case [y] of [] => l | x :: m => x :: y :: l end) end": "[5, 5]",
		"case [3] of [] => fn x => 1 | x :: l => fn y => x * y end": "fn", "(case [3] of [] => fn x => 1 | x :: l => fn y => x * y end) 4": "12", "let a = 1 in (case [] of [] => (let b = 2 in a + b) | x :: l => a end) * a": "3",
		"let rec f n = if n < 1 then 0 else n + f (n - 1) in f 4": "10", "let y = 3 in let rec f n = if n < 1 then y else f (n - 1) in f 4": "3", "let rec f n m = if n < 1 then m else f (n - 1) (m + n) in f 4 0": "10", "let rec f n = 5 in f 1": "5",
		"let rec f n = (let rec g m = if m < 1 then n else g (m - 1) + f (n - 1) in if n < 1 then 1 else g 2) in f 2": "8", "let rec f n = fn m => (let g x = f x in if n < 1 then m else g (n - 1) (m * 2)) in f 3 1": "8", "(let rec f n = 1 in 2) + (let rec g n = if n < 1 then 3 else g (n - 1) in g 1)": "5",
		"let x = 1 in handle do a 2 with { return y => (x, y) | a v k => k (v + x) }": "(1, 3)", "handle do a 2 with { return y => y | a v v => v 5 }": "5", "handle do a 2 + 1 with { return y => y | a v k => (let f u = v * u in k (f 10)) }": "21",
		"handle do a 2 with { return y => fn z => (y, z) | a v k => fn z => k (v + z) v }": "fn", "(handle do a 2 with { return y => fn z => (y, z) | a v k => fn z => k (v + z) v }) 7": "(9, 2)", "let k = 3 in handle do a k with { return y => y + k | a v k => k v + 100 }": "106",
		"handle (handle do a 1 + do s 2 with { return x => x | a v k => k (v * 10) }) with { return x => x | s w j => j (w * 100) }": "210", "handle do s (do a 3) with { return x => x | a v k => (handle k v with { return y => y + v | s w j => 1 }) | s w j => j (w + 1) }": "7",
		"shallow do a 1 + do a 2 with { return x => x | a v k => (let g x = k (v + x) in handle g 10 with { return y => y * v | a v k => k (v * 100) }) }": "211",
	} {
		if o := played(t, ops+"main = "+main); o.Kind != api.Done || o.Value != want {
			t.Errorf("%s: %v, want %s", main, o, want)
		}
	}
	for text, want := range map[string]string{
		"def a x = 1 def b x = a x + 1 def c x = a x + b x * 10 main = (c 0, (b 0, a 0))": "(21, (2, 1))", "def f x y = x * 10 + y def g x = f x def h x = g (x + 1) main = h 1 5": "25", "def rec f n = if n < 1 then 1 else n * f (n - 1) def g x = f x main = g 5": "120",
	} {
		if o := played(t, text); o.Kind != api.Done || o.Value != want {
			t.Errorf("%s: %v, want %s", text, o, want)
		}
	}
}
