package infer_test

import (
	"testing"

	"effectus/api"
)

// TestOperationFaults: the operations in order, of each its name, its types from the left, and their parts.
func TestOperationFaults(t *testing.T) {
	checkMarked(t, api.ErrTwice, "",
		"op once a : int => int ^op once a : int => int main = 1",
		"op once a : int => int op many b : int => int ^op many a : bool => bool main = 1",
		"op once a : int => int ^op once a : int -{b}-> int => int main = x",
		"op once a : (int -{a, ^a}-> int) => int main = 1",
		"op once a : int => int -{a, b, ^a}-> int op many b : int => int main = 1",
		"op once a : (int -{a, a_}-> int -{a_, a, ^a_, a}-> int) => int op many a_ : int => int main = 1",
		"op once a : (int -{a, ^a, x}-> int) => int main = 1",
		"op once a : (int -{a, ^a}-> int) => int -{x}-> int op once a : int => int main = 1",
	)
	checkMarked(t, api.ErrName, "",
		"op once a : (int -{^x}-> int) => int main = 1", "op once a : int => int -{^x}-> int main = 1", "op once a : int => int -{a, ^x}-> int main = 1",
		"op once a : (int -{^x, x}-> int) => int main = 1", "op once a : (int -{a, ^x, a}-> int) => int main = 1",
		"op once a : (int -{^x}-> int) => int -{y}-> int main = 1", "op once a : (int -{^x}-> int -{y}-> int) => int main = 1",
		"op once a : ((int -{^x}-> int) -{y}-> int) => int main = 1", "op once a : ((int -{a}-> int) -{^y}-> int) => int main = 1",
		"op once a : ((int -{^x}-> int) list * (int -{y}-> int)) => int main = 1", "op once a : (int list * (int -{^y}-> int)) => int main = 1",
		"op once a : int => int op once b : int => (int -{^c}-> int) list op once a : int => int main = 1",
		"op once a : int => int -{^f}-> int def f x = x main = 1",
	)
	checkTypes(t, "op once a : (int -{a, b}-> int -{b, a}-> int) => int -{b}-> int op many b : int => (int -{a}-> int) list main = (fn x => do a x, fn x => do b x)",
		"main : ((int -{a, b}-> int -{a, b}-> int) -{a | r1}-> int -{b}-> int) * (int -{b | r2}-> (int -{a}-> int) list)")
	checkTypes(t, "op once f : int => bool * unit list def f x = do f x main = 1", "f : int -{f | r1}-> bool * unit list", "main : int")
}

func TestDefFaults(t *testing.T) {
	checkMarked(t, api.ErrTwice, "", "def f x = x ^def f x = x main = 1", "def f x = x def g x = x ^def rec f x = y main = 1", "def rec f x = x ^def f x = f main = 1")
	checkMarked(t, api.ErrName, "",
		"def f x = ^y main = 1", "def f x = ^f x main = 1", "def f x = ^g x def g x = x main = 1", "def f x = ^x_ def f x = x main = 1", "def f x = x main = ^x",
		"def rec f x = f x def g y = ^x main = 1", "def f x = ^y_ main = z", "main = ^main_",
	)
	checkMarked(t, api.ErrType, "",
		"def f x = x ^x main = 1", "^def rec f x = f main = 1", "^def rec f x = fn y => f main = 1", "def g x = x ^def rec f x = f :: [] main = 1",
		"^def rec f x = (f, 1) main = 1", "def rec f x = f x ^f main = 1", "^def rec f x = (f x 1; 1) main = 1", "^def rec f x = (fn y => (y; fn z => z)) (f 1 + 1) main = 1",
		"def f x = x + ^true def f x = x main = y",
	)
}

func TestNameFaults(t *testing.T) {
	checkMarked(t, api.ErrName, declared+"main = ",
		"^x", "^get", "fn x => ^y", "(fn x => x) ^x", "^x 1", "^x y", "1 ^x", "let x = ^x in x", "let x = 1 in ^y", "let f x = ^f x in f", "(let x = 1 in x; ^y)", "(let x = 1 in x) + ^x",
		"let rec f x = ^y in f", "(let rec f x = f x in f) ^f", "^x; y", "1; ^y", "if ^x then y else z", "if true then ^y else z", "if true then 1 else ^z",
		"(^x, y)", "(1, ^y)", "fst ^x", "snd ^x", "^x :: y", "1 :: ^y", "case ^x of [] => y | a :: b => z end", "case [] of [] => ^a | a :: b => z end", "case [] of [] => 1 | a :: b => ^z end",
		"(case [] of [] => 1 | a :: b => 1 end) + ^a", "^x + y", "1 + ^y", "^do x 1", "^do x y", "do put ^y", "^do declared ()",
		"handle ^x with { return x => y | get u k => z }", "handle 1 with { return x => ^y | get u k => z }", "handle 1 with { return x => x | get u k => ^z }", "handle 1 with { return x => x | get u k => ^x }",
		"handle ^u with { return x => x | get u k => 1 }", "(handle 1 with { return x => x | get u k => 1 }) + ^x",
		"handle 1 with { return x => x | get u k => 1 | put v j => ^u }", "handle x with { return y => z | ^ask u k => 1 }", "handle x with { return y => z | get u k => 1 | ^ask u k => 1 | get u k => 1 }",
	)
	checkMarked(t, api.ErrTwice, declared+"main = ",
		"handle 1 with { return x => x | get u k => 1 | ^get u k => 1 }", "handle x with { return y => z | get u k => a | put u k => b | ^get u k => c | ask u k => d }",
		"shallow do get true with { return y => z | put u k => a | ^put u k => b }", "handle (handle x with { return y => z | put u k => 1 | put u k => 2 }) with { return y => z | get u k => a | ^get u k => b }",
	)
}

// TestTypeFaults: types that can't be the same, each at the place that is told.
func TestTypeFaults(t *testing.T) {
	checkMarked(t, api.ErrType, declared+"main = ",
		"^1 2", "(^1) 2", "^true 1", "^() ()", "^[] 1", "^(1, 2) 3", "(^fn x => x) 1 2", "1 (^2 3)", "(fn x => x) (^1 2)", "(^1 + 2) 3",
		"(fn x => x + 1) ^true", "(fn x y => x + y) 1 ^true", "(fn x y => x + y) ^true 1", "(fn f => f 1) ^2", "(fn f => f 1 + 1) (^fn x => true)", "(fn f => f true) (^fn x => x + 1)",
		"fn x => x ^x", "fn f => (f 1, f ^true)", "fn f => (f 1; ^f + 1)", "fn x => (x + 1; ^x 1)", "fn x y => (x y; y ^x)", "fn x => x (x ^x)",
		"let x = 1 in x + ^true", "let x = 1 in ^x 2", "let f x = x + 1 in f ^true",
		"^let rec f x = f in 1", "1; ^let rec f x = (f, f) in f", "^let rec f x = (f x x; 1) in f", "let rec f x = x + ^true in f", "let rec f x = f 1 + 1 in f ^true",
		"if ^1 then 2 else 3", "if ^() then 1 else 2", "if [^true] then 1 else 2", "if true then 1 else ^true", "if true then 1 else ^[]", "if true then [1] else [^true]", "if true then 1 else ^fn x => x",
		"fn x => if x then 1 else ^x", "fn x => if true then x else [^x]", "fn x => if true then [x] else ^x", "if true then fn x => 1 else ^fn x => true",
		"fst ^1", "snd ^[]", "fst (^fn x => x)", "snd ^()", "(fn p => fst p + 1) ^(true, 1)", "fn x => (fst x; ^x + 1)", "fn x => (x + 1; snd ^x)", "fn x => fst x + ^x", "fn x => (fst x) ^x",
		"1 :: ^true", "1 :: [^true]", "1 :: ^2", "true :: 1 :: [^true]", "true :: ^1 :: [1]", "[1, ^true]", "[1, 2, ^true]", "[true, ^1, 2]", "[1, true, ^3]", "fn x => x :: ^x", "(1, 2) :: ^(3, 4)", "[1] :: [^1]", "(1 :: []) :: ^2 :: []",
		"case ^1 of [] => 1 | a :: b => 2 end", "case ^(1, 2) of [] => 1 | a :: b => 2 end", "case [1] of [] => 1 | a :: b => ^true end", "case [true] of [] => 1 | a :: b => ^a end", "case [1] of [] => 1 | a :: b => ^b end",
		"case [1] of [] => 1 | a :: b => a + ^b end", "case [[]] of [] => 1 | a :: b => ^a + 1 end", "fn x => case x of [] => 1 | a :: b => ^x end", "fn x => case x of [] => x | a :: b => ^a end",
		"^true + 1", "1 + ^true", "^() - 1", "1 - ^()", "^[] * 1", "1 * ^[]", "^true < 1", "1 < ^true", "^true == true", "1 == ^()", "[^1] == [1]", "1 + 2 + ^true", "(^1 < 2) + 1", "1 + (2 == ^true)", "1 + (^2 == 3)",
		"do put ^true", "do get ^1", "do call ^1", "do call (^fn x => 1)", "do run (^fn x => do get ())", "do call (^fn x => (do put 1; true))", "do put (1 + ^true)", "fn f => (f true; do call ^f)",
	)
}

// TestHandlerFaults: what a clause gives is what the return gives, and its names are of the operation's types.
func TestHandlerFaults(t *testing.T) {
	checkMarked(t, api.ErrType, declared+"main = ",
		"handle 1 with { return x => true | get u k => ^1 }", "handle 1 with { return x => x | get u k => ^u }", "handle 1 with { return x => x | put v k => k ^v }", "handle 1 with { return x => x | get u k => k ^true }",
		"handle 1 with { return x => x == 1 | get u k => ^k 1 + 1 }", "handle 1 with { return x => x | get u k => ^k }", "handle 1 with { return x => x | put v k => (v + 1; ^v ()) }",
		"handle true with { return x => ^x + 1 | get u k => 1 }", "handle true with { return x => 1 | get u k => 1 | put v k => ^true }", "handle true with { return x => 1 | get u k => ^true | put v k => 1 + true }",
		"handle 1 + ^true with { return x => x + true | get u k => true + 1 }", "handle 1 with { return x => x + ^true | get u k => true + 1 }", "handle 1 with { return x => x | get u k => ^true + 1 | put v k => true + 1 }",
		"handle do get () with { return x => [] | get u k => [^fn x => k x] }", "handle do get () with { return x => [] | get u k => ^k 2; [k] }", "handle do get () with { return x => [] | flip u k => k (1 < 2) | get u k => k ^true }",
		"handle do get () with { return x => x == 1 | get u k => k ^true }", "handle do call (fn x => true) with { return l => l | call g k => k ^1 }", "handle do call (fn x => true) with { return l => l | call g k => g ^true; [] }",
		"shallow 1 with { return x => true | get u k => ^1 }", "shallow do get () with { return x => true | get u k => ^handle k 1 with { return y => y | get v j => 1 } }",
		"shallow do get () with { return x => true | get u k => handle k ^true with { return y => true | get v j => true } }",
		"handle (do get (), 1) with { return x => fn y => 1 | get u k => ^fn z => handle k 1 z with { return y => y | put v j => 0 } }",
	)
	checkMarked(t, api.ErrRow, declared+"main = ",
		"shallow do get () with { return x => x | get u k => ^k 1 }", "fn f => shallow f () with { return x => x | get u k => ^k 1 }", "shallow do get () with { return x => true | get u k => ^k 1; true }",
		"handle do get () with { return x => x | get u k => ^do get () }", "handle do get () with { return x => ^do get () | get u k => 1 }", "handle ^do get () with { return x => x | put u k => 1 }", "handle ^do get () with { return x => x }",
		"handle 1 with { return x => x | get u k => k (^do put 1; 1) }", "handle do call (fn x => true) with { return l => 1 | call g k => ^g 1; 1 }",
		"(handle do get () with { return x => x | get u k => k 1 }) + ^do get ()",
	)
}

// TestRowFaults: what is done where it is not allowed.
func TestRowFaults(t *testing.T) {
	checkMarked(t, api.ErrRow, declared+"main = ",
		"^do get ()", "1 + ^do get ()", "do put (^do get ())", "(^do get (); do put 1)", "let x = ^do get () in x", "if ^do flip () then 1 else 2", "if true then ^do get () else 2", "(1, ^do get ())", "[^do get ()]",
		"case [] of [] => ^do get () | x :: l => x end", "(fn x => x) (^do get ())", "(^fn u => do get ()) ()", "(fn x => x) 1; (^fn u => do get ()) ()", "let f = fn u => do get () in ^f ()", "let f = fn u => do get () in 1 + ^f ()",
		"let f = fn u v => do get () in (f 1; ^f 1 2)", "let rec f x = (do get (); f x) in ^f 1", "(^fn f => f ()) (fn u => do get ())", "((^fn f => f) (fn u => do get ())) ()",
		"fn f => (do call f; ^f 1)", "fn f => (do call f; handle ^f 1 with { return x => x | put v k => true })", "fn f => (do run f; ^f ())", "fn f => (f (); ^do run f)", "fn f => (do get (); f 1; ^do call f)",
	)
	checkMarked(t, api.ErrType, declared+"main = ", "fn f => (do put 1; f 1; do call ^f)", "fn f => (do get (); f (); do run ^f)")
}

// TestFirstFault: of several faults the one that is met first.
func TestFirstFault(t *testing.T) {
	for kind, texts := range map[api.Errno][]string{
		api.ErrName: {
			"main = ^x + true", "main = (^x, 1 2)", "main = 1 ^x", "main = (1 + 2) ^x", "main = ^f (1 2)", "def f x = ^y def f x = x main = 1", "main = if true then ^x else 1 2", "main = case [] of [] => ^x | a :: b => 1 2 end",
			"main = ^do get (1 2)", "main = handle 1 2 with { return x => 1 2 | ^get u k => 1 2 }", "main = let x = ^y in 1 2", "op once a : (int -{^b}-> int) => int main = 1 2", "main = true :: ^x",
		},
		api.ErrType: {
			"main = ^1 2 + x", "main = if ^1 then x else y", "main = ^true + x", "main = case ^1 of [] => x | a :: b => y end", "main = (^1 2) x", "main = (fn x => x + 1) (^1 2)", "main = ^1 2; x", "main = let y = ^1 2 in x", "def f x = ^1 2 def f x = y main = 1",
			"main = handle ^1 2 with { return x => y }", "main = (^1 2, x)", "main = (^1 2) :: x", "main = fst (^1 2)", "op once a : int => int main = do a ^true", "op once a : int => int main = (fn x => do a (x + 1)) ^true",
		},
		api.ErrRow: {
			"op once a : int => int main = ^do a 1 + true", "op once a : int => int main = (^do a 1) 2", "op once a : int => int main = (^do a 1; x)", "op once a : int => int main = if true then ^do a 1 else true", "op once a : int => int main = do a (^do a 1; true)",
		},
		api.ErrTwice: {
			"op once a : int => int ^op once a : int => int def f x = x def f x = x main = x", "def f x = x ^def f x = y main = x", "op once a : (int -{a, ^a, b}-> int) => int main = x",
		},
	} {
		checkMarked(t, kind, "", texts...)
	}
}
