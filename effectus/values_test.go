package effectus_test

import (
	"strings"
	"testing"

	"effectus/api"
)

const someOps = "op once get : unit => int op many flip : unit => bool op once ask : int => int op many fork : int => int "

// someDefs stand behind someOps ahead of texts.
const someDefs = "def rec append a b = case a of [] => b | x :: r => x :: append r b end def twice f x = f (f x) def rec map f l = case l of [] => [] | x :: r => f x :: map f r end " +
	"def rec sum l = case l of [] => 0 | x :: r => x + sum r end def add x y = x + y def three x y z = x * 100 + y * 10 + z "

// checkValues has of each main what it comes to, or by which operation it is Spent.
func checkValues(t *testing.T, ahead string, table [][2]string) {
	t.Helper()
	for _, row := range table {
		want := api.Outcome{Kind: api.Done, Value: row[1]}
		if op, spent := strings.CutPrefix(row[1], "spent "); spent {
			want = api.Outcome{Kind: api.Spent, Op: op}
		}
		text := ahead + "main = " + row[0]
		c := checkCode(t, text, 20000)
		checkSmall(t, text, c.code)
		c.code.Steps = 0
		if c.code != want {
			t.Errorf("%s: %v, want %v", row[0], c.code, want)
		}
	}
}

func TestExamples(t *testing.T) {
	checkValues(t, "op many flip : unit => bool op once get : unit => int op many fail : unit => int ", [][2]string{
		{"handle (if do flip () then 1 else 2) :: [] with { return x => x | flip u k => (case k true of [] => k false | a :: l => a :: (k false) end) }", "[1, 2]"},
		{"handle do get () + do get () with { return x => x | get u k => k 20 + 1 }", "42"},
		{"handle do get () + do get () with { return x => x | get u k => k 1 + k 2 }", "spent get"},
		{"shallow do get () + do get () with { return x => x | get u k => handle k 1 with { return y => y * 100 | get v j => j 5 } }", "600"},
		{"handle do get () + 1 with { return x => x | get u k => k 4 }", "5"}, {"handle do get () + 1 with { return x => x | get u k => k 4 + k 4 }", "spent get"},
		{"let safe f = handle f () with { return x => x | fail u k => 0 } in safe (fn u => 1 + do fail ())", "0"},
		{"let rec map f l = case l of [] => [] | x :: r => f x :: map f r end in map (fn x => x * x) [1, 2, 3]", "[1, 4, 9]"},
		{"let not b = (if b then false else true) in handle not (do flip ()) with { return x => x | flip u k => k true }", "false"},
	})
	if c := checkCode(t, "def rec loop i = loop (i + 1) main = loop 0", api.MaxFuel); c.code.Kind != api.Going {
		t.Errorf("%v", c)
	}
}

func TestValues(t *testing.T) {
	checkValues(t, someOps+someDefs, [][2]string{
		{"1", "1"}, {"~5", "-5"}, {"true", "true"}, {"false", "false"}, {"()", "()"}, {"[]", "[]"}, {"[1, ~2]", "[1, -2]"}, {"(1, (true, ()))", "(1, (true, ()))"}, {"[[], [1]]", "[[], [1]]"}, {"fn x => x", "fn"}, {"[add, add]", "[fn, fn]"}, {"add 1", "fn"},
		{"9223372036854775807 + 1", "-9223372036854775808"}, {"~9223372036854775807 - 2", "9223372036854775807"}, {"9223372036854775807 * 2", "-2"}, {"7 - 10", "-3"}, {"2 - 1 - 1", "0"}, {"1 < 2", "true"}, {"2 < 1", "false"}, {"1 < 1", "false"}, {"1 == 1", "true"}, {"1 == 2", "false"}, {"~1 < 0", "true"},
		{"if 1 < 2 then 3 else 4", "3"}, {"if 2 < 1 then 3 else 4", "4"}, {"(if true then 1 else 2) + (if false then 10 else 20)", "21"}, {"fst (1, 2)", "1"}, {"snd (1, 2)", "2"}, {"1; 2; 3", "3"}, {"let f x = (x; x + 1) in f 1 + f 2", "5"},
		{"add 1 2", "3"}, {"twice (add 1) 2", "4"}, {"map (add 1) [1, 2]", "[2, 3]"}, {"(fn f => f 1 2) add", "3"}, {"map (three 1 2) [3, 4]", "[123, 124]"}, {"sum (map (fn x => x * x) [1, 2, 3])", "14"}, {"let x = 1 in let f = fn y => x + y in let x = 100 in f x", "101"},
		{"let f = three 1 in let g = f 2 in let h = f 4 in (g 3, (h 5, (g 6, f 7 8)))", "(123, (145, (126, 178)))"}, {"case [add, three 1] of [] => 0 | f :: r => f 5 6 end", "11"}, {"let rec f n m = (let g = (f, f) in if n < 1 then m else f (n - 1) (m + n)) in (f 3 0, map (f 2) [1, 2])", "(6, [4, 5])"},
		{"let f x = x in f (f (f add)) 1 2", "3"}, {"let rec f n = (1; fn u => (map f [1]; n)) in (f 3 (), map (fn g => g ()) (map f [4]))", "(3, [4])"}, {"let f x = (let rec h y = if y < 1 then [x] else y :: h (y - 1) in h x) in (f 2, map f [1])", "([2, 1, 2], [[1, 1]])"},
		{"let rec up n = if n < 1 then [] else append (up (n - 1)) [n] in up 12", "[1, 2, 3, 4, 5, 6, 7, 8, 9, 10, 11, 12]"}, {"let rec down n = if n < 1 then [] else 1000 :: down (n - 1) in down 80", "[" + strings.Repeat("1000, ", 66) + "100..."},
	})
}

func TestHandlers(t *testing.T) {
	checkValues(t, someOps+someDefs, [][2]string{
		{"handle do get () with { return x => x + 1 | get u k => 7 }", "7"}, {"handle do get () with { return x => x + 1 | get u k => k 7 }", "8"}, {"handle do get () with { return x => x + 1 | get u k => k 7 * 10 }", "80"}, {"handle do ask 4 with { return x => x | ask k k => k 9 }", "9"}, {"handle 3 with { return x => x + 1 }", "4"},
		{"(handle do ask 4 with { return x => fn y => x + y | ask v k => fn y => k v (y * 2) }) 5", "14"}, {"(handle (do get () + do get () + do get ()) with { return x => fn s => (x, s) | get u k => fn s => k s (s + 1) }) 10", "(33, 13)"},
		{"let x = 1 in handle (let x = 2 in do ask x) with { return y => x * 100 + y | ask v k => k (v + x) }", "103"}, {"handle do fork 1 + 1 with { return x => x | fork v k => k (k (k v)) }", "4"}, {"handle do fork 1 + 1 with { return x => x * 10 | fork v k => k v + k (v + 1) }", "50"},
		{"handle (do flip (), do flip ()) with { return x => [x] | flip u k => append (k true) (k false) }", "[(true, true), (true, false), (false, true), (false, false)]"}, {"handle do flip () with { return x => [x] | flip u k => map (fn f => 1) [k]; k true }", "[true]"},
		{"handle (handle do get () with { return x => x | get u k => do get () + k 1 }) with { return x => x | get u k => k 20 }", "21"},
		{"handle (handle (handle do ask 1 + do get () with { return x => x * 2 | fork v k => 0 }) with { return x => x + 1 | get u k => k 5 }) with { return x => x * 100 | ask v k => k (v + 1) + 3 }", "1503"},
		{"handle (handle do ask 1 with { return x => x | fork v k => 0 | get u k => 0 | flip u k => 0 }) with { return x => x | ask v k => k 5 }", "5"}, {"handle (shallow do ask 1 + do get () with { return x => x | get u k => (handle k 5 with { return x => x * 2 | get u k => 0 }) }) with { return x => x | ask v k => k 6 }", "22"},
		{"handle (let k = (handle (do fork 1; do ask 2) with { return x => fn y => x | fork v k => fn y => k v y }) in k 2) with { return x => x | ask v k => k v }", "2"}, {"let later = (handle [do fork 1] with { return x => fn y => y :: x | fork v k => fn y => append (k 1 y) (k y 7) }) in later 5", "[5, 1, 7, 5]"},
		{"handle (handle do flip () with { return x => do flip () | ask v k => true }) with { return x => [x] | flip u k => append (k true) (k false) }", "[true, false, true, false]"}, {"handle 1 + (handle do ask 1 with { return x => x | ask v k => do ask 2 + k 3 }) with { return x => x | ask v k => k 40 }", "44"},
		{"let f x = (handle x () with { return x => x | ask v k => k (v + 1) }) in f (fn u => do ask 1 + f (fn u => do ask 10))", "13"}, {"handle (fn x => do ask x) with { return f => (handle f 1 with { return x => x | ask v k => 2 }) | ask v k => 3 }", "2"},
		{"handle (let f = (handle (fn x => do ask x + 1) with { return f => f | ask v k => fn x => 1000 }) in f 4) with { return x => x | ask v k => k (v * 10) }", "41"}, {"handle [do fork 1, do fork 2] with { return x => x | fork v k => (case k (v * 10) of [] => [] | a :: l => v :: a :: l end) }", "[1, 2, 10, 20]"},
	})
}

// TestResumptions: a resumption is a value as others are, and what it is applied to goes on in the place of the application.
func TestResumptions(t *testing.T) {
	checkValues(t, someOps+someDefs, [][2]string{
		{"handle do fork 1 with { return x => [fn y => x] | fork v k => [fn y => 1] }", "[fn]"}, {"(handle do fork 1 + 5 with { return x => fn y => x | fork v k => fn y => k y 0 }) 7", "12"}, {"handle do fork 1 + 1 with { return x => x | fork v k => map k [1, 2, 3]; 9 }", "9"}, {"handle do fork 1 + 1 with { return x => x | fork v k => sum (map k [1, 2, 3]) }", "9"},
		{"handle do fork 1 + 1 with { return x => x | fork v k => twice k 5 }", "7"}, {"handle do fork 1 with { return x => [x] | fork v k => case [k, fn x => [x, x]] of [] => [] | f :: r => append (f 7) (case r of [] => [] | g :: s => g 8 end) end }", "[7, 8, 8]"}, {"handle do fork 1 + 1 with { return x => x | fork v k => (fst (k, 1)) 6 }", "7"},
		{"handle do fork 1 + 1 with { return x => x | fork v k => let j = k in j 1 * j 2 }", "6"}, {"handle do fork 1 + 1 with { return x => x | fork v k => (fn j => j 3) k }", "4"}, {"handle do fork 1 + 1 with { return x => x | fork v k => (fn w => k w) 3 }", "4"}, {"handle do fork 1 + 1 with { return x => x | fork v k => let rec f n = if n < 1 then k 100 else f (n - 1) in f 5 }", "101"},
		{"handle (handle do fork 1 + do ask 2 with { return x => x * 2 | fork v k => k (v + 10) }) with { return x => x + 1 | ask v k => k (v + 100) }", "227"}, {"handle do ask (do fork 1) with { return x => x | fork v k => (handle k 2 with { return y => y * 3 | get u j => j 0 }) | ask v k => k v + 1 }", "9"},
		{"handle (handle do ask 1 + 1 with { return x => x | ask v k => (handle do get () with { return y => k y | get u j => j 3 + 1 }) }) with { return x => x * 2 | fork v k => 0 }", "10"}, {"(handle (do fork 1; do fork 2) with { return x => (fn y => x) | fork v k => (handle k v 0 with { return y => fn z => y + z }) }) 1", "3"},
		{"let k = (handle do fork 1 + 10 with { return x => fn y => x * y | fork v k => fn y => k y y }) in (k 2, k 3)", "(24, 39)"}, {"handle do fork 1 + do fork 2 with { return x => x | fork v k => if v < 2 then k v else (if true then (1; k (v + v)) else 0) }", "5"}, {"handle do fork 1 with { return x => x | fork v k => case [v, 2] of [] => k 0 | a :: l => k (sum l) end }", "2"},
		{"shallow do ask 3 with { return x => fn y => x | ask v k => k }", "fn"}, {"let f = (shallow do ask 3 + 1 with { return x => fn y => x | ask v k => k }) in handle f 5 with { return x => x | ask v k => 1 }", "6"}, {"shallow do fork 1 + 1 with { return x => x | fork v k => (handle sum (map k [1, 2]) with { return x => x | fork v k => 0 }) }", "5"},
		{"shallow do fork 1 + do fork 2 with { return x => [x] | fork v k => (handle k 5 with { return x => [x] | fork v j => append (j 1) (j 2) }) }", "[6, 7]"}, {"shallow do fork 1 + do fork 1 with { return x => x | fork v k => (handle k 1 + k 2 with { return x => x | fork v k => k 1 + k 10 }) }", "56"}, {"shallow 3 with { return x => x + 1 | fork v k => 1 }", "4"},
		{"handle (shallow do ask 1 + do get () + do get () with { return x => x | get u k => (handle 100 + k 5 with { return x => x | get u k => k 1000 }) }) with { return x => x | ask v k => k 6 }", "1111"}, {"handle (shallow (do ask 1; do ask 2; do get (); do ask 3; do get ()) with { return x => x | get u k => (handle k 5 with { return x => x | get u k => k 8 }) }) with { return x => x | ask v k => k 6 }", "8"},
		{"let rec serve n f = (shallow f () with { return x => (n, x) | ask v k => serve (n + v) (fn u => k n) }) in serve 1 (fn u => [do ask 1, do ask 2, do ask 3])", "(7, [1, 2, 4])"}, {"shallow do fork 1 + 1 with { return x => x | fork v k => (shallow k 1 with { return x => x * 5 | fork v k => 0 }) }", "10"},
	})
}

// TestSpent: a resumption of a once operation goes on a single time, wherever that is asked for again.
func TestSpent(t *testing.T) {
	checkValues(t, someOps+someDefs, [][2]string{
		{"handle do get () with { return x => x | get u k => k 1 + k 2 }", "spent get"}, {"handle do ask 1 with { return x => x | ask u k => k (k 2) }", "spent ask"}, {"shallow do get () with { return x => x | get u k => (handle k 1 + k 2 with { return x => x | get u k => 0 }) }", "spent get"}, {"shallow do ask 1 with { return x => x | ask u k => (handle twice k 1 with { return x => x | ask u k => 0 }) }", "spent ask"},
		{"handle do get () with { return x => x | get u k => map k [1, 2]; 1 }", "spent get"}, {"handle do get () with { return x => x | get u k => map k [1]; 7 }", "7"}, {"handle do get () with { return x => x | get u k => map k [1]; k 2 }", "spent get"}, {"handle do get () + do get () + do get () with { return x => x | get u k => k 5 }", "15"},
		{"handle (do flip (); do get ()) with { return x => x | flip u k => k true + k false | get u k => k 4 }", "8"}, {"handle (do get (); do flip (); 1) with { return x => x | flip u k => k true + k false | get u k => k 4 }", "2"},
		{"handle (handle (do get (); do flip (); 1) with { return x => x | get u k => k 4 }) with { return x => x | flip u k => k true + k false }", "2"}, {"handle (handle (do flip (); do get ()) with { return x => x | get u k => (do flip (); k 4) }) with { return x => x | flip u k => k true + k false }", "spent get"},
		{"handle (handle do get () with { return x => x | get u k => (if do flip () then k 4 else 5) }) with { return x => x | flip u k => k true + k false }", "9"}, {"let k = (handle do get () with { return x => fn y => x | get u k => fn y => k 1 y }) in k 1 + k 2", "spent get"},
		{"handle (do get (), do ask 1) with { return x => x | ask v k => (k 1; k 2) | get u k => k 3 }", "spent ask"}, {"handle do get () with { return x => x | get u k => (let j = k in (k 1; j 2)) }", "spent get"}, {"handle do get () with { return x => x | get u k => (let f x = k x in (f 1; f 2)) }", "spent get"},
	})
}
