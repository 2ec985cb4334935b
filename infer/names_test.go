package infer_test

import (
	"testing"

	"effectus/api"
)

// TestGeneral: what a def, a let of a value and a let rec bind is of new variables at each use.
func TestGeneral(t *testing.T) {
	checkTypes(t, "def id x = x main = (id 1, id true)", "id : a -{| r1}-> a", "main : int * bool")
	checkTypes(t, "def id x = x def two f = (id f, id id) main = two 1", "id : a -{| r1}-> a", "two : a -{| r1}-> a * (b -{| r2}-> b)", "main : int * (a -{| r1}-> a)")
	checkTypes(t, "def rec f x = f x main = (f 1 + 1, if f true then 1 else 2)", "f : a -{| r1}-> b", "main : int * int")
	checkMain(t, "", [][2]string{
		{"let f = fn x => x in (f 1, f true)", "int * bool"}, {"let f x = x in (f 1, f true)", "int * bool"}, {"let f x = x in f f f 1", "int"},
		{"let rec f x = x in (f 1, f true)", "int * bool"}, {"let n = [] in (1 :: n, true :: n)", "int list * bool list"},
		{"let f = fn x => x in let g = f in (g 1, g true)", "int * bool"}, {"let n = [] in let m = n in (1 :: m, true :: m)", "int list * bool list"},
		{"let x = 1 in x", "int"}, {"let x = true in x", "bool"}, {"let x = () in x", "unit"},
		{"let f = fn x => fn y => x in (f 1 2, f true 3)", "int * bool"}, {"fn z => let f = fn x => x in (f 1, (f true, f z))", "a -{| r1}-> int * bool * a"},
		{"let rec len l = case l of [] => 0 | x :: r => 1 + len r end in len [1] + len [true]", "int"},
		{"fn x => let f = fn y => (x, y) in (f 1, f true)", "a -{| r1}-> (a * int) * a * bool"},
		{"fn x => let f = fn y => let g = fn z => (x, (y, z)) in (g 1, g true) in (f 1, f ())", "a -{| r1}-> ((a * int * int) * a * int * bool) * (a * unit * int) * a * unit * bool"},
	})
	checkMain(t, declared, [][2]string{
		{"let f = fn g => g () in (f (fn u => 1), fn v => (f (fn u => do get ()), f (fn u => do flip ())))", "int * (a -{flip, get | r1}-> int * bool)"},
		{"let f = fn u => do get () in (fn x => (f (); do put 1), f)", "(a -{get, put | r1}-> unit) * (b -{get | r2}-> int)"},
	})
}

// TestNotGeneral: what else a let binds, and parameters, and what names of a case and of clauses stand for.
func TestNotGeneral(t *testing.T) {
	checkMarked(t, api.ErrType, "main = ",
		"(fn f => (f 1, f ^true)) (fn x => x)",
		"let f = (fn x => x) (fn x => x) in (f 1, f ^true)",
		"let f = if true then fn x => x else fn x => x in (f 1, f ^true)",
		"let f = (1; fn x => x) in (f 1, f ^true)",
		"let f = let y = 1 in fn x => x in (f 1, f ^true)",
		"let f = fst (fn x => x, 1) in (f 1, f ^true)",
		"let f = case [] of [] => fn x => x | y :: l => y end in (f 1, f ^true)",
		"let f = handle fn x => x with { return x => x } in (f 1, f ^true)",
		"let n = [[]] in ((1 :: []) :: n, (true :: []) :: ^n)",
		"let p = ([], 1) in (1 :: fst p, true :: ^fst p)",
		"let n = (fn x => x) [] in (1 :: n, true :: ^n)",
		"let rec f x = (f 1; f ^true) in f",
		"let rec f x = let g = f in (g 1; g ^true) in f",
		"case [fn x => x] of [] => (1, true) | f :: l => (f 1, f ^true) end",
		"case [[]] of [] => ([1], [true]) | x :: l => (1 :: x, true :: ^x) end",
		"case [[]] of [] => ([1], [true]) | x :: l => (1 :: x, case l of [] => [] | y :: m => true :: ^y end) end",
		"handle fn x => x with { return f => (f 1, f ^true) }",
	)
	checkMain(t, "", [][2]string{
		{"let f = (fn x => x) (fn x => x) in f", "a -{| r1}-> a"}, {"let f = (fn x => x) (fn x => x) in (f 1, f)", "int * (int -> int)"},
		{"let n = (fn x => x) [] in (1 :: n, n)", "int list * int list"},
	})
	checkMarked(t, api.ErrType, "def rec f x = ", "(f 1; f ^true) main = 1")
}

// TestInSight: variables that stand in the type of a name in sight are the same ones at each use.
func TestInSight(t *testing.T) {
	checkMarked(t, api.ErrType, "main = fn x => ",
		"let y = x in (y + 1, if ^y then 1 else 2)",
		"let x = x in (x + 1, if ^x then 1 else 2)",
		"let f = fn u => x in (f 1 + 1, if ^f 1 then 1 else 2)",
		"let rec f u = x in (f 1 + 1, if ^f 1 then 1 else 2)",
		"let n = [] in let m = fn u => x :: n in (1 :: m 1, true :: ^m 1)",
		"fn y => let f = fn u => (x, y) in (fst (f 1) + 1, if ^fst (f 1) then 1 else 2)",
		"let y = x in let z = y in (z + 1, if ^z then 1 else 2)",
		"let f = fn y => (x; y) in (x + 1; let g = fn u => x in if ^g 1 then 1 else 2)",
		"case x of [] => 1 | y :: l => let z = y in (z + 1; if ^z then 1 else 2) end",
		"case x of [] => 1 | y :: l => let m = l in (1 :: m; if case m of [] => true | y :: l => ^y end then 1 else 2) end",
	)
	checkMain(t, "", [][2]string{
		{"fn f => let g = fn u => f u in g", "(a -{| r1}-> b) -{| r2}-> a -{| r1}-> b"},
		{"fn f => let g = fn u => (f u; 1) in (g, g)", "(a -{| r1}-> b) -{| r2}-> (a -{| r1}-> int) * (a -{| r1}-> int)"},
		{"fn f => let g = f in g", "a -{| r1}-> a"}, {"fn f => (f 1; let g = f in g)", "(int -{| r1}-> a) -{| r1}-> int -{| r1}-> a"},
	})
	checkMain(t, declared, [][2]string{
		{"fn f => let g = fn u => (f u; 1) in fn v => (do get (); g v)", "(a -{get | r1}-> b) -{| r2}-> a -{get | r1}-> int"},
		{"fn f => let g = fn u => fn v => f v in (g 1, (g true, fn w => (do get (); f w)))", "(a -{get | r1}-> b) -{| r2}-> (a -{get | r1}-> b) * (a -{get | r1}-> b) * (a -{get | r1}-> b)"},
	})
}

// TestHidden: a name that is hidden by another one of the same text is still known to those that were bound while it was in sight.
func TestHidden(t *testing.T) {
	checkMarked(t, api.ErrType, "main = fn x => ",
		"let g = fn y => x in fn x => let f = g in (f 1 + 1, if ^f 1 then 1 else 2)",
		"let g = fn y => x in let x = 1 in let f = fn u => g u in (f 1 + 1, if ^f 1 then 1 else 2)",
		"let y = x in case [] of [] => 1 | x :: l => let z = y in (z + 1; if ^z then 1 else 2) end",
		"let x = x in let x = x in (x + 1; if ^x then 1 else 2)",
		"let x = fn u => x in let x = x 1 in (x + 1; if ^x then 1 else 2)",
		"let x = fn u => x in let x = fn u => x u in (x 1 + 1; if ^x 1 then 1 else 2)",
	)
	checkMain(t, "", [][2]string{{"fn f => let g = fn u => f u in fn f => let h = g in (h, h)", "(a -{| r1}-> b) -{| r2}-> c -{| r3}-> (a -{| r1}-> b) * (a -{| r1}-> b)"}})
	checkMain(t, declared, [][2]string{
		{"fn f => let g = fn u => f u in fn f => let h = g in fn v => (do get (); h v)", "(a -{get | r1}-> b) -{| r2}-> c -{| r3}-> a -{get | r1}-> b"},
	})
}

// TestNearest: a name means what stands nearest around it.
func TestNearest(t *testing.T) {
	checkTypes(t, "def f x = 1 def g f = f def h x = f main = let f = true in f", "f : a -{| r1}-> int", "g : a -{| r1}-> a", "h : a -{| r1}-> b -{| r2}-> int", "main : bool")
	checkTypes(t, "def rec f f = f main = f", "f : a -{| r1}-> a", "main : a -{| r1}-> a")
	checkMain(t, declared, [][2]string{
		{"fn x => (fn x => x + 1; x)", "a -{| r1}-> int -{| r2}-> int"}, {"fn x => ((fn x => x + 1); x)", "a -{| r1}-> a"}, {"fn x => (let x = 1 in x; x)", "a -{| r1}-> int"},
		{"fn x => ((let x = 1 in x); x)", "a -{| r1}-> a"}, {"fn x => ((let rec x y = x y in x); x)", "a -{| r1}-> a"},
		{"fn x => ((case [1] of [] => 1 | x :: y => x + 1 end); x)", "a -{| r1}-> a"}, {"fn y => ((case [1] of [] => 1 | x :: y => x + 1 end); y)", "a -{| r1}-> a"},
		{"fn x => ((handle 1 with { return x => x + 1 }); x)", "a -{| r1}-> a"}, {"fn x => ((handle 1 with { return y => 1 | put x k => x }); x)", "a -{| r1}-> a"},
		{"fn k => ((handle 1 with { return y => 1 | put x k => k () }); k)", "a -{| r1}-> a"},
		{"let x = 1 in let x = [x] in let x = (x, x) in x", "int list * int list"}, {"let f x = 1 in let f x = f x + 1 in f true", "int"}, {"let f x = 1 in let rec f x = f x in f", "a -{| r1}-> b"},
		{"handle 1 with { return y => [] | put x x => x () }", "a list"}, {"fn x => case x of [] => 1 | x :: x => (case x of [] => 1 | y :: x => y end) end", "int list -{| r1}-> int"},
		{"let get = 1 in handle do get () + get with { return x => x | get get k => k (get; 1) }", "int"},
	})
}

// TestOpened: what may do less may stand where more is allowed, at a use of a general name and of a clause's two.
func TestOpened(t *testing.T) {
	checkTypes(t, declared+"def f u = do make () def g u = f u 1 def h u = (f u) main = 1",
		"f : a -{make | r1}-> int -> int", "g : a -{make | r1}-> int", "h : a -{make | r1}-> int -{| r2}-> int", "main : int")
	checkTypes(t, declared+"def f g = do run g def h g = f g main = f", "f : (unit -> int) -{run | r1}-> int", "h : (unit -> int) -{run | r1}-> int", "main : (unit -> int) -{run | r1}-> int")
	checkMain(t, declared, [][2]string{
		{"fn g => (do run g; let h = g in h ())", "(unit -> int) -{run | r1}-> int"},
		{"fn g => (do run g; let h = g in (h, g))", "(unit -> int) -{run | r1}-> (unit -{| r2}-> int) * (unit -> int)"},
		{"fn g => (do run g; let h = fn x y => g in (h, h 1 2))", "(unit -> int) -{run | r1}-> (a -{| r2}-> b -{| r3}-> unit -{| r4}-> int) * (unit -{| r5}-> int)"},
		{"fn g => (do run g; let h = fn x => (g, g) in h)", "(unit -> int) -{run | r1}-> a -{| r2}-> (unit -> int) * (unit -> int)"},
		{"fn g => (do run g; let h = fn x => [g] in h)", "(unit -> int) -{run | r1}-> a -{| r2}-> (unit -> int) list"},
		{"fn g => (do run g; let h = fn x => do run x in h)", "(unit -> int) -{run | r1}-> (unit -> int) -{run | r2}-> int"},
		{"fn y => handle 1 with { return x => x | run f k => f () }", "a -{| r1}-> int"},
		{"fn y => handle 1 with { return x => x | run f k => f (do put 1) }", "a -{put | r1}-> int"},
		{"handle do get () with { return x => x | get u k => handle k 1 with { return y => y | put v j => 0 } }", "int"},
		{"handle do make () with { return x => x | make u k => fn z => z }", "int -> int"},
		{"handle do make () with { return x => x | make u k => (k (fn y => y) 1; fn z => z) }", "int -> int"},
		{"handle do make () with { return x => x | make u k => handle (k (fn y => y) 1; fn z => z) with { return y => y | put v j => fn z => z } }", "int -> int"},
		{"handle do make () with { return x => (fn y => y) x | make u k => handle (k (fn y => y) 1; fn z => z) with { return y => y | put v j => fn z => z } }", "int -> int"},
		{"fn g => let h = fn u => g in (do run g; h 1 ())", "(unit -> int) -{run | r1}-> int"},
		{"fn g => let h = fn u => g in let i = h in (do run g; i 1 ())", "(unit -> int) -{run | r1}-> int"},
		{"shallow do make () with { return x => 1 | make u k => handle k (fn y => y) 1 with { return y => y | make v j => 0 } }", "int"},
		{"shallow do get () with { return x => x | get u k => handle k 1 with { return y => y | get v j => 0 | put v j => 1 } }", "int"},
	})
	checkMarked(t, api.ErrRow, declared+"main = fn g => ",
		"(do run g; ^g ())", "(do run g; (^fn h => h ()) g; do get ())", "(do run g; let h = (g; g) in ^h ())",
		"(do run g; case [g] of [] => 1 | h :: l => ^h () end)", "(do run g; handle g with { return h => ^h () })", "(^do make ()) 1",
	)
}
