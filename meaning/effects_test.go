package meaning_test

import "testing"

// two operations of each kind, and what gives back what they are done with.
const someOps = "op once get : unit => int op once ask : int => int op many flip : unit => bool op many fork : int => int "

func TestDeep(t *testing.T) {
	checkValues(t, someOps, [][2]string{
		{"handle 1 with { return x => x + 1 }", "2"}, {"handle 1 with { return x => x + 1 | get u k => 7 }", "2"}, {"handle do get () with { return x => x + 1 | get u k => 7 }", "7"},
		{"handle do get () with { return x => x + 1 | get u k => k 7 }", "8"}, {"handle do ask 5 with { return x => x + 1 | ask v k => k (v * 2) }", "11"},
		{"handle 10 * do ask 5 with { return x => x + 1 | ask v k => k v * 100 }", "5100"},
		{"handle do ask 1 + do ask 2 with { return x => [x] | ask v k => v :: k (v * 10) }", "[1, 2, 30]"},
		{"handle (let x = do get () in let y = do get () in x - y) with { return x => x | get u k => k 3 - 1 }", "-2"},
		// the clause stands where the EHandle does, and its value is that one's
		{"10 + (handle 100 + do get () with { return x => x | get u k => 1 })", "11"}, {"let x = 1 in handle (let x = 2 in do ask x) with { return y => y | ask v k => x * 10 + v }", "12"},
		{"let x = 1 in handle (let x = 2 in do ask x) with { return y => x * 100 + y | ask v k => k 5 }", "105"},
		// the first name of a clause, the second, the nearest if they are the same
		{"handle do ask 4 with { return x => x | ask k v => v (k + 1) }", "5"}, {"handle do ask 4 with { return x => x | ask k k => k 9 }", "9"},
		// state by functions
		{"(handle (do ask 5; do get () + do get ()) with { return x => fn s => (x, s) | get u k => fn s => k s (s + 1) | ask v k => fn s => k s v }) 0", "(11, 7)"},
		// a function that does something takes what stands around where it is called
		{"let f x = do ask x in handle f 1 with { return x => x | ask v k => k (v + 1) }", "2"},
		{"let f = handle (fn x => do get ()) with { return x => x } in handle f 1 with { return x => x | get u k => k 9 }", "9"},
		{"handle (handle (fn u => do get ()) with { return f => f () | get u k => 1 }) with { return x => x | get u k => 2 }", "2"},
	})
}

func TestNearest(t *testing.T) {
	checkValues(t, someOps, [][2]string{
		{"handle (handle do get () with { return x => x | get u k => k 1 }) with { return x => x | get u k => k 2 }", "1"},
		{"handle (handle do get () with { return x => x | ask v k => k 1 }) with { return x => x | get u k => k 2 }", "2"},
		{"handle (handle (do get (), do ask 0) with { return x => x | ask v k => k 1 }) with { return x => x | get u k => k 2 }", "(2, 1)"},
		{"handle (handle (do ask 0, do get ()) with { return x => x | ask v k => k 1 }) with { return x => x | get u k => k 2 }", "(1, 2)"},
		// neither the return nor a clause is in sight of its own EHandle
		{"handle (handle 1 with { return x => x + do get () | get u k => k 10 }) with { return x => x | get u k => k 20 }", "21"},
		{"handle (handle do get () with { return x => x | get u k => do get () + k 1 }) with { return x => x | get u k => k 20 }", "21"},
		{"handle (handle do get () with { return x => x + do get () | get u k => k 1 }) with { return x => x | get u k => k 20 }", "21"},
		// what is handled again further outwards takes the inner EHandle along
		{"handle (handle do get () + do ask 1 with { return x => x * 2 | ask v k => k (v + 1) }) with { return x => x | get u k => k 10 + 1 }", "25"},
		{"handle (handle do flip () with { return x => (x, true) | get u k => (false, false) }) with { return x => [x] | flip u k => case k true of [] => [] | a :: l => a :: k false end }", "[(true, true), (false, true)]"},
		// a resumption applied elsewhere sees what stands there
		{"handle (let k = (handle do ask 1 + do get () with { return x => fn u => x | ask v k => fn u => k 5 () }) in (handle k () with { return x => x | get u j => j 100 })) with { return x => x | get u j => j 1000 }", "105"},
		{"handle (handle do flip () with { return x => if x then do ask 1 else do ask 2 | flip u k => k true + (handle k false with { return y => y * 1000 | ask v j => j (v + 5) }) }) with { return x => x | ask v k => k (v * 10) }", "7010"},
	})
}

func TestShallow(t *testing.T) {
	checkValues(t, someOps, [][2]string{
		{"shallow 1 with { return x => x + 1 | get u k => 7 }", "2"}, {"shallow do get () with { return x => x + 1 | get u k => 7 }", "7"}, {"(shallow 5 + do get () with { return x => x | get u k => 1 }) + 1", "2"},
		// its return is not part of its resumption
		{"shallow do get () with { return x => x + 100 | get u k => handle k 7 with { return y => y | get u j => 1 } }", "7"},
		{"shallow do get () * 2 with { return x => x + 100 | get u k => handle k 7 + 1 with { return y => y | get u j => 1 } }", "15"},
		// nor does it handle what comes then
		{"shallow do ask 1 + do ask 2 with { return x => x | ask v k => handle k (v * 10) with { return y => y | ask v j => j (v * 100) } }", "210"},
		{"shallow do ask 1 + do ask 2 + do ask 3 with { return x => x | ask v k => handle k (v * 10) with { return y => y | ask v j => j (v * 100) } }", "510"},
		{"shallow do ask 1 + do ask 2 + do ask 3 with { return x => x | ask v k => shallow k (v * 10) with { return y => y | ask v j => handle j (v * 100) with { return z => z + 7 | ask v i => i (v * 1000) } } }", "3217"},
		{"shallow do ask 1 + (shallow do ask 2 + do ask 3 with { return x => x * 2 | ask v k => handle k (v * 10) with { return y => y + 1 | ask v j => j (v * 100) } }) " +
			"with { return x => x | ask v k => handle k (v * 1000) with { return y => y | ask v j => j (v * 7) } }", "1321"},
		// one that does not have the operation is passed, and stays
		{"handle (shallow do get () + do ask 1 with { return x => x * 2 | ask v k => handle k 10 with { return y => y | ask v j => j 1 } }) with { return x => x | get u k => k 5 }", "15"},
		{"handle (shallow do get () + 1 with { return x => x * 2 | ask v k => 0 }) with { return x => x | get u k => k 5 }", "12"},
		// around a deep one, which stays
		{"shallow (handle do get () + do ask 1 with { return x => x * 2 | ask v k => k 10 }) with { return x => x + 500 | get u k => handle k 5 with { return y => y + 1 | get u j => j 1 } }", "31"},
		{"shallow (handle do get () with { return x => x * 2 | ask v k => k 10 }) with { return x => x + 500 | get u k => handle k 5 with { return y => y + 1 | get u j => j 1 } }", "11"},
	})
	checkValues(t, someOps+"def rec serve n f = shallow f () with { return x => (n, x) | ask v k => serve (n + v) (fn u => k n) } ", [][2]string{
		{"serve 1 (fn u => 5)", "(1, 5)"}, {"serve 1 (fn u => [do ask 1, do ask 2, do ask 3])", "(7, [1, 2, 4])"}, {"serve 0 (fn u => do ask (do ask (do ask 5)))", "(10, 5)"},
		{"serve 0 (fn u => fst (serve 10 (fn u => do ask 1)) + do ask 2)", "(2, 11)"},
	})
}

func TestMany(t *testing.T) {
	list := "def rec append a b = case a of [] => b | x :: r => x :: append r b end "
	checkValues(t, someOps+list, [][2]string{
		{"handle (do flip (), do flip ()) with { return x => [x] | flip u k => append (k true) (k false) }", "[(true, true), (true, false), (false, true), (false, false)]"},
		{"handle do fork 3 with { return x => [x] | fork v k => append (k v) (append (k (v * 2)) (k (v * 3))) }", "[3, 6, 9]"},
		{"handle (let x = do fork 1 in let y = do fork 10 in x + y) with { return x => [x] | fork v k => append (k v) (k (v * 2)) }", "[11, 21, 12, 22]"},
		// what a resumption does the second time is what it did the first time
		{"handle (let rec f n = if n < 1 then do fork 0 else f (n - 1) + 1 in f 20) with { return x => x | fork v k => k 1 + k 1 + k 100 }", "162"},
		// in it, and in one within another
		{"handle (handle do flip () with { return x => if x then do fork 1 else do fork 2 | flip u k => k true + 10 * k false }) with { return x => [x] | fork v k => append (k v) (k (v + 5)) }", "[21, 71, 26, 76]"},
		{"handle do fork 1 + 1 with { return x => x | fork v k => k (k (k v)) }", "4"},
		{"handle do fork 1 with { return x => fn y => x + y | fork v k => fn y => k v (k y y) }", "fn"}, {"(handle do fork 1 with { return x => fn y => x + y | fork v k => fn y => k v (k y y) }) 5", "11"},
		// shallow ones too
		{"shallow do fork 1 + do fork 10 with { return x => x | fork v k => handle k 1 + k 2 with { return y => y | fork v j => j v + j 20 } }", "132"},
		// a resumption that is kept, and applied when its EHandle is long over
		{"let k = (handle 1 + do fork 1 with { return x => fn y => x | fork v k => fn y => k y 0 }) in [k 1, k 2, k 3]", "[2, 3, 4]"},
		{"shallow do fork 5 with { return x => [] | fork v k => [k] }", "[fn]"},
	})
}

func TestOnce(t *testing.T) {
	checkSpent(t, someOps, [][2]string{
		{"handle do get () with { return x => x | get u k => (k 1; k 2) }", "get"}, {"handle do ask 1 with { return x => x | ask v k => k (k 2) }", "ask"},
		{"handle do get () + do ask 1 with { return x => x | get u k => k 1 | ask v k => k 1 + k 1 }", "ask"}, {"handle do get () with { return x => x | get u k => let j = k in (j 1; k 1) }", "get"},
		{"shallow do get () with { return x => x | get u k => (handle k 1; k 2 with { return x => x | get u k => k 1 }) }", "get"},
		{"handle do get () with { return x => x | get u k => fst (k 1, [k 2]) }", "get"},
		// applied again elsewhere, and by a resumption of another one
		{"let k = (handle do get () with { return x => fn y => x | get u k => fn y => k y 0 }) in (k 1; k 2)", "get"},
		{"handle (handle do get () with { return x => x | get u k => (do flip (); k 1) }) with { return x => x | flip u k => k true + k false }", "get"},
		{"handle (handle (do flip (); do get ()) with { return x => fn u => x | get u k => (do flip (); k 1) }) with { return f => f () | flip u k => k true + k false }", "get"},
	})
	checkValues(t, someOps, [][2]string{
		// each EDo has a resumption of its own
		{"handle do get () + do get () + do get () with { return x => x | get u k => k 2 }", "6"}, {"handle do get () with { return x => x | get u k => 7 }", "7"},
		{"handle (handle (do flip (); do get ()) with { return x => x | get u k => k 1 }) with { return x => x | flip u k => k true + k false }", "2"},
		{"handle do get () with { return x => x | get u k => if true then k 1 else k 2 }", "1"}, {"handle do get () with { return x => x | get u k => (k; k; k 1) }", "1"},
		{"shallow do get () with { return x => [] | get u k => [k, k] }", "[fn, fn]"},
	})
	text := someOps + "main = handle do get () with { return x => x | get u k => (k 1; k (2 + 3)) }"
	checkFuels(t, text, run(t, text, plenty))
}
