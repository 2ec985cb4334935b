package infer_test

import (
	"slices"
	"strings"
	"testing"

	"effectus/api"
	"effectus/infer"
	"effectus/syntax"
)

// declared stands ahead of the texts that do something.
const declared = "op once get : unit => int op many put : int => unit op many flip : unit => bool " +
	"op many make : unit => int -> int op many run : (unit -> int) => int op once call : (int -{get}-> bool) => int list "

// typesOf writes what is answered as `name : type` each.
func typesOf(t *testing.T, text string) []string {
	t.Helper()
	types, fault := infer.Infer(text)
	if fault != (api.Fault{}) {
		t.Errorf("%s: %v", text, fault)
	}
	var all []string
	for _, typing := range types {
		all = append(all, typing.Name+" : "+typing.Type)
	}
	return all
}

func checkTypes(t *testing.T, text string, want ...string) {
	t.Helper()
	if got := typesOf(t, text); !slices.Equal(got, want) {
		t.Errorf("%s:\n got %q\nwant %q", text, got, want)
	}
}

// checkMain looks at expressions, each with its type.
func checkMain(t *testing.T, ahead string, table [][2]string) {
	t.Helper()
	for _, row := range table {
		checkTypes(t, ahead+"main = "+row[0], "main : "+row[1])
	}
}

func checkFault(t *testing.T, text string, kind api.Errno, at int) {
	t.Helper()
	types, fault := infer.Infer(text)
	if fault != (api.Fault{Kind: kind, At: at}) || len(types) > 0 {
		t.Errorf("%s:\n got %v %v\nwant %v at %d", text, types, fault, kind, at)
	}
}

// checkMarked takes the one ^ out of each text: there the fault is to be.
func checkMarked(t *testing.T, kind api.Errno, ahead string, texts ...string) {
	t.Helper()
	for _, marked := range texts {
		before, behind, found := strings.Cut(marked, "^")
		if !found || strings.Contains(behind, "^") {
			t.Fatalf("%q has not one ^", marked)
		}
		checkFault(t, ahead+before+behind, kind, len(ahead)+len(before))
	}
}

func TestExamples(t *testing.T) {
	checkTypes(t, "def map f = fn l => l main = 1", "map : a -{| r1}-> b -{| r2}-> b", "main : int")
	checkTypes(t, "op once get : unit => int def two x = do get () + do get () main = handle two () with { return x => x | get u k => k 1 }",
		"two : a -{get | r1}-> int", "main : int")
	checkMarked(t, api.ErrRow, "op once get : unit => int ", "main = ^do get ()")
	checkMarked(t, api.ErrType, "", "def f x = x ^x main = 1")
	checkTypes(t, "op many fail : unit => int def safe f = handle f () with { return x => x | fail u k => 0 } main = safe (fn u => 1 + do fail ())",
		"safe : (unit -{fail | r1}-> int) -{| r1}-> int", "main : int")
	checkMarked(t, api.ErrRow, "", "op many fail : unit => int main = ^do fail ()")
	checkTypes(t, "op many flip : unit => bool main = handle (do flip (), do flip ()) with { return x => [x] | flip u k => case k true of [] => k false | a :: l => a :: k false end }",
		"main : (bool * bool) list")
	checkTypes(t, "def rec map f l = case l of [] => [] | x :: r => f x :: map f r end main = map (fn x => x * x) [1, 2, 3]",
		"map : (a -{| r1}-> b) -{| r1}-> a list -{| r1}-> b list", "main : int list")
	checkTypes(t, "def rec loop i = loop (i + 1) main = loop 0", "loop : int -{| r1}-> a", "main : a")
}

// TestAnswer: the defs in their order and main behind them, each type with variables of its own, and nothing with a fault.
func TestAnswer(t *testing.T) {
	checkTypes(t, "main = []", "main : a list")
	checkTypes(t, "def z x = x def a x y = x def m f x = f x main = fn x => fn y => y",
		"z : a -{| r1}-> a", "a : a -{| r1}-> b -{| r2}-> a", "m : (a -{| r1}-> b) -{| r2}-> a -{| r1}-> b", "main : a -{| r1}-> b -{| r2}-> b")
	checkTypes(t, "def f x = (x, ([], (x, []))) def g x = f main = (f, g)",
		"f : a -{| r1}-> a * b list * a * c list",
		"g : a -{| r1}-> b -{| r2}-> b * c list * b * d list",
		"main : (a -{| r1}-> a * b list * a * c list) * (d -{| r2}-> e -{| r3}-> e * f list * e * g list)")
	checkTypes(t, "op once x : unit => int op many main_ : int => int def x x = do x () main = fn x => do main_ 1",
		"x : a -{x | r1}-> int", "main : a -{main_ | r1}-> int")
	checkMarked(t, api.ErrName, "def f x = x def g x = x ", "main = ^y")
}

// TestTextFaults: what can't be read has the fault of Parse, what can has that of its tree.
func TestTextFaults(t *testing.T) {
	long := "main = 1" + strings.Repeat(" ", api.MaxText)
	deep := "main = " + strings.Repeat("(", api.MaxDepth+1) + "1"
	for _, text := range []string{"", "main", "main = ", "main = (1", "main = $", "main = 007", "def f = 1 main = 1", "x", long, deep, "main = x $"} {
		_, want := syntax.Parse(text)
		if want.Kind == api.OK {
			t.Fatalf("%.40s is a text", text)
		}
		checkFault(t, text, want.Kind, want.At)
	}
	for _, text := range []string{"main = 1", "main = x", "def f x = x main = f f", declared + "def f x = do get () main = f 1"} {
		tree, _ := syntax.Parse(text)
		types, fault := infer.Check(tree)
		again, other := infer.Infer(text)
		if !slices.Equal(types, again) || fault != other {
			t.Errorf("%s: %v %v, %v %v", text, types, fault, again, other)
		}
	}
}

// TestPlainExpressions: those that do nothing.
func TestPlainExpressions(t *testing.T) {
	checkMain(t, "", [][2]string{
		{"0", "int"}, {"~ 5", "int"}, {"true", "bool"}, {"false", "bool"}, {"()", "unit"},
		{"[]", "a list"}, {"[[]]", "a list list"}, {"[1, 2]", "int list"}, {"[[], [true]]", "bool list list"}, {"[[true], []]", "bool list list"},
		{"fn x => 1", "a -{| r1}-> int"}, {"fn x => x", "a -{| r1}-> a"}, {"fn x x => x", "a -{| r1}-> b -{| r2}-> b"},
		{"fn x y => x", "a -{| r1}-> b -{| r2}-> a"},
		{"(fn x => x) 1", "int"}, {"(fn x y => x) 1", "a -{| r1}-> int"}, {"(fn x y => x) 1 true", "int"}, {"(fn x => x) (fn x => x)", "a -{| r1}-> a"},
		{"fn f => f 1", "(int -{| r1}-> a) -{| r1}-> a"},
		{"fn f x => f x", "(a -{| r1}-> b) -{| r2}-> a -{| r1}-> b"},
		{"fn f x => f (f x)", "(a -{| r1}-> a) -{| r2}-> a -{| r1}-> a"},
		{"fn f x => (f x; x)", "(a -{| r1}-> b) -{| r2}-> a -{| r1}-> a"},
		{"fn f g x => f x (g x)", "(a -{| r1}-> b -{| r1}-> c) -{| r2}-> (a -{| r1}-> b) -{| r3}-> a -{| r1}-> c"},
		{"fn f => fn g => (f 1, g 1)", "(int -{| r1}-> a) -{| r2}-> (int -{| r1}-> b) -{| r1}-> a * b"},
		{"let x = 1 in x", "int"}, {"let x = 1 in let x = true in x", "bool"}, {"let f x = x in f 1", "int"}, {"let f x y = y in f", "a -{| r1}-> b -{| r2}-> b"},
		{"fn x => let y = x in y", "a -{| r1}-> a"},
		{"let rec f x = f x in f", "a -{| r1}-> b"}, {"let rec f x y = f y x in f", "a -{| r1}-> a -{| r1}-> b"},
		{"let rec f x = if x < 1 then 1 else x * f (x - 1) in f 5", "int"},
		{"1; true", "bool"}, {"fn x => (x; ())", "a -{| r1}-> unit"}, {"[]; (1, 2); (fn x => x); 1", "int"}, {"1; fn x => x; 1", "a -{| r1}-> int"},
		{"if true then 1 else 2", "int"}, {"fn a b c => if a then b else c", "bool -{| r1}-> a -{| r2}-> a -{| r3}-> a"},
		{"if true then [] else [1]", "int list"}, {"if true then [1] else []", "int list"}, {"if 1 < 2 then fn x => x else fn y => 1", "int -{| r1}-> int"},
		{"(1, true)", "int * bool"}, {"((1, ()), true)", "(int * unit) * bool"}, {"(1, ((), true))", "int * unit * bool"},
		{"fst (1, true)", "int"}, {"snd (1, true)", "bool"}, {"fn p => fst p", "a * b -{| r1}-> a"}, {"fn p => snd p", "a * b -{| r1}-> b"},
		{"fn p => (snd p, fst p)", "a * b -{| r1}-> b * a"}, {"fn p => fst (snd p)", "a * b * c -{| r1}-> b"},
		{"1 :: []", "int list"}, {"fn x l => x :: l", "a -{| r1}-> a list -{| r2}-> a list"}, {"fn x => x :: x :: []", "a -{| r1}-> a list"}, {"[] :: []", "a list list"},
		{"fn l => [1] :: l", "int list list -{| r1}-> int list list"},
		{"fn l => case l of [] => 0 | x :: r => x end", "int list -{| r1}-> int"}, {"fn l => case l of [] => l | x :: r => r end", "a list -{| r1}-> a list"},
		{"fn l d => case l of [] => d | x :: r => x end", "a list -{| r1}-> a -{| r2}-> a"}, {"fn l => case l of [] => [] | x :: x => x end", "a list -{| r1}-> a list"},
		{"case [] of [] => 1 | x :: r => 2 end", "int"}, {"case [[1]] of [] => [] | x :: r => x end", "int list"},
		{"1 + 2", "int"}, {"1 - 2", "int"}, {"1 * 2", "int"}, {"1 < 2", "bool"}, {"1 == 2", "bool"},
		{"fn x y => x + y", "int -{| r1}-> int -{| r2}-> int"}, {"fn x y => x == y", "int -{| r1}-> int -{| r2}-> bool"}, {"fn x y => x < y", "int -{| r1}-> int -{| r2}-> bool"},
		{"fn x => x - 1 * x", "int -{| r1}-> int"},
		{"handle 1 with { return x => x }", "int"}, {"handle 1 with { return x => (x, true) }", "int * bool"}, {"shallow [] with { return x => 1 :: x }", "int list"},
		{"fn f => handle f 1 with { return x => [x] }", "(int -{| r1}-> a) -{| r1}-> a list"},
	})
}

// TestEffects: what a function may do.
func TestEffects(t *testing.T) {
	checkMain(t, declared, [][2]string{
		{"fn u => do get ()", "a -{get | r1}-> int"}, {"fn x => do put x", "int -{put | r1}-> unit"}, {"fn x => do put (do get ())", "a -{get, put | r1}-> unit"},
		{"fn x => (do put 1; do get ())", "a -{get, put | r1}-> int"}, {"fn x => (do get (); do get ())", "a -{get | r1}-> int"},
		{"fn x => fn y => do get ()", "a -{| r1}-> b -{get | r2}-> int"}, {"fn x => (do put 1; fn y => do get ())", "a -{put | r1}-> b -{get | r2}-> int"},
		{"fn f => (f (); do get ())", "(unit -{get | r1}-> a) -{get | r1}-> int"}, {"fn f => (do get (); f ())", "(unit -{get | r1}-> a) -{get | r1}-> a"},
		{"fn f => (do get (); f)", "a -{get | r1}-> a"},
		{"fn x => if do flip () then do get () else 0", "a -{flip, get | r1}-> int"}, {"fn x => (do get (), do flip ())", "a -{flip, get | r1}-> int * bool"},
		{"fn x => [do get ()]", "a -{get | r1}-> int list"}, {"fn x => fst (do get (), x)", "a -{get | r1}-> int"}, {"fn x => do get () + x", "int -{get | r1}-> int"},
		{"fn x => let y = do get () in x", "a -{get | r1}-> a"}, {"fn x => case [do get ()] of [] => do flip () | y :: l => (do put y; true) end", "a -{flip, get, put | r1}-> bool"},
		{"fn x => do call (fn y => true)", "a -{call | r1}-> int list"}, {"fn x => do call (fn y => y < do get ())", "a -{call | r1}-> int list"},
		{"fn x => do call x", "(int -{get}-> bool) -{call | r1}-> int list"}, {"fn x => do run x", "(unit -> int) -{run | r1}-> int"},
		{"fn x => do make ()", "a -{make | r1}-> int -> int"}, {"fn f => do call (fn x => f x)", "(int -{get}-> bool) -{call | r1}-> int list"},
		{"(fn x => x) (fn u => do get ())", "a -{get | r1}-> int"}, {"let f = fn u => do get () in 1", "int"}, {"[fn u => do get (), fn u => (do put 1; 2)]", "(a -{get, put | r1}-> int) list"},
		{"if true then fn u => do get () else fn u => 1", "a -{get | r1}-> int"},
		{"let rec f x = (do put x; f (do get ())) in f", "int -{get, put | r1}-> a"}, {"let rec f x = fn y => (do put x; f 1 y) in f", "int -{put | r1}-> a -{put | r1}-> b"},
	})
}

// TestHandlers: what stands inside may do what is handled, and what stands around no longer does it.
func TestHandlers(t *testing.T) {
	checkMain(t, declared, [][2]string{
		{"handle do get () with { return x => x | get u k => k 1 }", "int"}, {"handle do get () with { return x => x == 1 | get u k => k 1 }", "bool"},
		{"handle do get () with { return x => [x] | get u k => k (k 1; 2) }", "int list"}, {"handle 1 with { return x => true | get u k => k 1 }", "bool"},
		{"handle do put 1 with { return x => x | put v k => k () }", "unit"}, {"handle do put 1 with { return x => 0 | put v k => v }", "int"},
		{"handle (do put (do get ())) with { return x => [] | put v k => v :: k () | get u k => k 3 }", "int list"},
		{"handle do put (handle do get () with { return x => x | get u k => k 3 }) with { return x => [] | put v k => v :: k () }", "int list"},
		{"handle (handle do get () with { return x => x | get u k => (do put 1; k 3) }) with { return x => [] | put v k => v :: k () }", "int list"},
		{"handle (handle do get () with { return x => (do put 1; x) | get u k => k 3 }) with { return x => [] | put v k => v :: k () }", "int list"},
		{"fn f => handle f () with { return x => x | get u k => k 1 }", "(unit -{get | r1}-> a) -{| r1}-> a"},
		{"fn f => handle f () with { return x => x | get u k => k 1 | put v k => k () }", "(unit -{get, put | r1}-> a) -{| r1}-> a"},
		{"fn f => handle f () with { return x => x | put v k => k () | get u k => k 1 }", "(unit -{get, put | r1}-> a) -{| r1}-> a"},
		{"fn f => handle (handle f () with { return x => x | get u k => k 1 }) with { return x => x | get u k => k 2 }", "(unit -{get, get | r1}-> a) -{| r1}-> a"},
		{"fn f => handle f () with { return x => x | get u k => k (do get ()) }", "(unit -{get, get | r1}-> a) -{get | r1}-> a"},
		{"fn f => handle f () with { return x => do get () | get u k => k 1 }", "(unit -{get, get | r1}-> a) -{get | r1}-> int"},
		{"fn f => handle f () with { return x => x | get u k => (do put 1; k 1) }", "(unit -{get, put | r1}-> a) -{put | r1}-> a"},
		{"fn f => handle f () with { return x => x }", "(unit -{| r1}-> a) -{| r1}-> a"},
		{"fn f => handle f () with { return x => fn s => x | get u k => fn s => k s s | put v k => fn s => k () v }", "(unit -{get, put | r1}-> a) -{| r1}-> int -{| r1}-> a"},
		{"fn f => handle f () with { return x => x | get u k => 0 }", "(unit -{get | r1}-> int) -{| r1}-> int"},
		{"fn f => shallow f () with { return x => x | get u k => 0 }", "(unit -{get | r1}-> int) -{| r1}-> int"},
		{"fn f => handle f () with { return x => true | call g k => (k []; false) }", "(unit -{call | r1}-> a) -{| r1}-> bool"},
		{"handle do call (fn x => x == do get ()) with { return l => true | call g k => handle g 1 with { return b => b | get u j => j 2 } }", "bool"},
		{"shallow do get () with { return x => x | get u k => handle k 1 with { return y => y * 100 | get v j => j 5 } }", "int"},
		{"shallow do get () with { return x => true | get u k => handle k 1 with { return y => y == 1 | get v j => j 5 } }", "bool"},
		{"fn f => shallow f () with { return x => [] | get u k => [k] }", "(unit -{get | r1}-> a) -{| r1}-> (int -{get | r1}-> a) list"},
	})
}
