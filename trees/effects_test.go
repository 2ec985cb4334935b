package trees_test

import "testing"

// TestCalmFunctions: one and the same function is applied as it is, and is a value.
func TestCalmFunctions(t *testing.T) {
	checkValues(t, someOps+someDefs, [][2]string{
		{"add 1 2", "3"}, {"twice (add 1) 2", "4"}, {"map (add 1) [1, 2]", "[2, 3]"}, {"(fn f => f 1 2) add", "3"}, {"(fn f => f 1 2 3) three", "123"}, {"map (three 1 2) [3, 4]", "[123, 124]"}, {"map (three 1) [2] ; 1", "1"}, {"three 1 2 3", "123"},
		{"let f = three 1 in let g = f 2 in let h = f 4 in (g 3, (h 5, (g 6, f 7 8)))", "(123, (145, (126, 178)))"}, {"let f = fst (add, 1) in f 1 2 + add 3 4", "10"}, {"case [add, three 1] of [] => 0 | f :: r => f 5 6 end", "11"},
		{"let rec f n = (if n < 1 then 0 else (case [f] of [] => 1 | g :: r => f (n - 1) end)) in f 3", "0"},
		{"let rec f n = (let g = [f] in if n < 1 then 7 else f (n - 1)) in (f 3, map f [1, 2])", "(7, [7, 7])"}, {"let rec f n m = (let g = (f, f) in if n < 1 then m else f (n - 1) (m + n)) in (f 3 0, map (f 2) [1, 2])", "(6, [4, 5])"},
		{"let f x = 5 in let g = f in let f x = 6 in (f 1, (g 1, map f [1]))", "(6, (5, [6]))"}, {"let f x = fn y => x + y in (f 1 2, map (f 3) [4])", "(3, [7])"}, {"let f x = (1; fn y => x + y) in (f 1 2, map (f 3) [4])", "(3, [7])"},
		{"let f x = (1; fn y z => x + y * z) in (f 1 2 3, map (f 3 4) [5])", "(7, [23])"}, {"let f x = x in (f f) (f 1)", "1"}, {"let f x = x in f (f (f add)) 1 2", "3"}, {"map (fn f => f 2) [add 1, three 1 2, fn x => x]", "[3, 122, 2]"},
		{"let rec f n = (1; fn u => (map f [1]; n)) in (f 3 (), map (fn g => g ()) (map f [4]))", "(3, [4])"}, {"let rec f n m = (1; fn u => (map (f 1) [m]; n)) in (f 3 4 (), map (fn g => g ()) (map (f 5) [6]))", "(3, [5])"},
		{"let f g = (g, add 1) in snd (f three)", "fn"}, {"let f x = (handle x with { return y => y + 1 | ask v k => v }) in (f 1, map f [2])", "(2, [3])"}, {"let f x = (let h y = x * y in h x) in (f 3, map f [4])", "(9, [16])"},
		{"let f x = (let rec h y = if y < 1 then [x] else y :: h (y - 1) in h x) in (f 2, map f [1])", "([2, 1, 2], [[1, 1]])"}, {"handle (add (do ask 1) 2, twice (add 1) (do ask 3)) with { return x => x | ask v k => k (v * 10) }", "(12, 32)"},
		{"handle twice (fn x => add x (do ask x)) 1 with { return x => x | ask v k => k (v * 10) }", "121"},
	})
}

func TestHandlers(t *testing.T) {
	checkValues(t, someOps+someDefs, [][2]string{
		{"handle do get () with { return x => x + 1 | get u k => 7 }", "7"}, {"handle do get () with { return x => x + 1 | get u k => k 7 }", "8"}, {"handle do get () with { return x => x + 1 | get u k => k 7 * 10 }", "80"}, {"handle do ask 4 with { return x => x | ask k k => k 9 }", "9"},
		{"(handle do ask 4 with { return x => fn y => x + y | ask v k => fn y => k v (y * 2) }) 5", "14"}, {"(handle (do get () + do get () + do get ()) with { return x => fn s => (x, s) | get u k => fn s => k s (s + 1) }) 10", "(33, 13)"},
		{"let x = 1 in handle (let x = 2 in do ask x) with { return y => x * 100 + y | ask v k => k (v + x) }", "103"}, {"handle do fork 1 + 1 with { return x => x | fork v k => k (k (k v)) }", "4"},
		{"handle (do flip (), do flip ()) with { return x => [x] | flip u k => append (k true) (k false) }", "[(true, true), (true, false), (false, true), (false, false)]"},
		{"handle (handle do get () with { return x => x | get u k => do get () + k 1 }) with { return x => x | get u k => k 20 }", "21"},
		{"handle (handle (handle do ask 1 + do get () with { return x => x * 2 | fork v k => 0 }) with { return x => x + 1 | get u k => k 5 }) with { return x => x * 100 | ask v k => k (v + 1) + 3 }", "1503"},
		{"handle (handle do ask 1 with { return x => x | fork v k => 0 | get u k => 0 | flip u k => 0 }) with { return x => x | ask v k => k 5 }", "5"}, {"handle (shallow do ask 1 + do get () with { return x => x | get u k => (handle k 5 with { return x => x * 2 | get u k => 0 }) }) with { return x => x | ask v k => k 6 }", "22"},
		{"handle (shallow do ask 1 + do get () + do get () with { return x => x | get u k => (handle 100 + k 5 with { return x => x | get u k => k 1000 }) }) with { return x => x | ask v k => k 6 }", "1111"}, {"handle (shallow (do ask 1; do ask 2; do get (); do ask 3; do get ()) with { return x => x | get u k => (handle k 5 with { return x => x | get u k => k 8 }) }) with { return x => x | ask v k => k 6 }", "8"},
		{"handle (let k = (handle (do fork 1; do ask 2) with { return x => fn y => x | fork v k => fn y => k v y }) in k 2) with { return x => x | ask v k => k v }", "2"},
		{"let later = (handle [do fork 1] with { return x => fn y => y :: x | fork v k => fn y => append (k 1 y) (k y 7) }) in later 5", "[5, 1, 7, 5]"},
		{"let k = (handle do fork 1 + 10 with { return x => fn y => x * y | fork v k => fn y => k y y }) in (k 2, k 3)", "(24, 39)"}, {"handle do fork 1 with { return x => [x] | fork v k => case [k, fn x => [x, x]] of [] => [] | f :: r => append (f 7) (case r of [] => [] | g :: s => g 8 end) end }", "[7, 8, 8]"},
		{"let rec serve n f = (shallow f () with { return x => (n, x) | ask v k => serve (n + v) (fn u => k n) }) in serve 1 (fn u => [do ask 1, do ask 2, do ask 3])", "(7, [1, 2, 4])"},
		{"handle (handle do flip () with { return x => do flip () | ask v k => true }) with { return x => [x] | flip u k => append (k true) (k false) }", "[true, false, true, false]"}, {"handle 1 + (handle do ask 1 with { return x => x | ask v k => do ask 2 + k 3 }) with { return x => x | ask v k => k 40 }", "44"},
		{"let f x = (handle x () with { return x => x | ask v k => k (v + 1) }) in f (fn u => do ask 1 + f (fn u => do ask 10))", "13"}, {"handle (fn x => do ask x) with { return f => (handle f 1 with { return x => x | ask v k => 2 }) | ask v k => 3 }", "2"},
		{"handle (let f = (handle (fn x => do ask x + 1) with { return f => f | ask v k => fn x => 1000 }) in f 4) with { return x => x | ask v k => k (v * 10) }", "41"},
		{"shallow do fork 1 + do fork 2 with { return x => [x] | fork v k => (handle k 5 with { return x => [x] | fork v j => append (j 1) (j 2) }) }", "[6, 7]"}, {"shallow do fork 1 + do fork 1 with { return x => x | fork v k => (handle k 1 + k 2 with { return x => x | fork v k => k 1 + k 10 }) }", "56"}, {"shallow 3 with { return x => x + 1 | fork v k => 1 }", "4"},
		{"shallow do ask 3 with { return x => fn y => x | ask v k => k }", "fn"}, {"shallow do fork 3 with { return x => fn y => x | fork v k => k }", "fn"}, {"let f = (shallow do ask 3 + 1 with { return x => fn y => x | ask v k => k }) in handle f 5 with { return x => x | ask v k => 1 }", "6"},
	})
}

// TestSpent: a resumption of a once operation goes on a single time, wherever that is asked for again.
func TestSpent(t *testing.T) {
	checkValues(t, someOps+someDefs, [][2]string{
		{"handle do get () with { return x => x | get u k => k 1 + k 2 }", "spent get"}, {"handle do ask 1 with { return x => x | ask u k => k (k 2) }", "spent ask"}, {"shallow do get () with { return x => x | get u k => (handle k 1 + k 2 with { return x => x | get u k => 0 }) }", "spent get"}, {"shallow do ask 1 with { return x => x | ask u k => (handle twice k 1 with { return x => x | ask u k => 0 }) }", "spent ask"},
		{"handle do get () with { return x => x | get u k => map k [1, 2]; 1 }", "spent get"}, {"handle do get () with { return x => x | get u k => map k [1]; 7 }", "7"}, {"handle do get () + do get () + do get () with { return x => x | get u k => k 5 }", "15"}, {"handle do get () with { return x => x | get u k => 7 }", "7"},
		{"handle (do flip (); do get ()) with { return x => x | flip u k => k true + k false | get u k => k 4 }", "8"}, {"handle (do get (); do flip (); 1) with { return x => x | flip u k => k true + k false | get u k => k 4 }", "2"},
		{"handle (handle (do get (); do flip (); 1) with { return x => x | get u k => k 4 }) with { return x => x | flip u k => k true + k false }", "2"}, {"handle (handle (do flip (); do get ()) with { return x => x | get u k => (do flip (); k 4) }) with { return x => x | flip u k => k true + k false }", "spent get"},
		{"handle (handle do get () with { return x => x | get u k => (if do flip () then k 4 else 5) }) with { return x => x | flip u k => k true + k false }", "9"}, {"let k = (handle do get () with { return x => fn y => x | get u k => fn y => k 1 y }) in k 1 + k 2", "spent get"},
		{"handle (do get (), do ask 1) with { return x => x | ask v k => (k 1; k 2) | get u k => k 3 }", "spent ask"},
	})
}
