package trees_test

import (
	"fmt"
	"reflect"
	"strings"
	"testing"

	"effectus/api"
	"effectus/core"
)

// someDefs stand behind someOps ahead of texts.
const someDefs = "def rec append a b = case a of [] => b | x :: r => x :: append r b end def twice f x = f (f x) def rec map f l = case l of [] => [] | x :: r => f x :: map f r end " +
	"def rec sum l = case l of [] => 0 | x :: r => x + sum r end def add x y = x + y def three x y z = x * 100 + y * 10 + z "

// checkValues has of each main what it comes to; of an empty value it is Spent, by the operation behind a blank.
func checkValues(t *testing.T, ahead string, table [][2]string) {
	t.Helper()
	for _, row := range table {
		want := api.Outcome{Kind: api.Done, Value: row[1]}
		if op, spent := strings.CutPrefix(row[1], "spent "); spent {
			want = api.Outcome{Kind: api.Spent, Op: op}
		}
		c := checkTree(t, ahead+"main = "+row[0], 20000)
		c.pure.Steps = 0
		if c.pure != want {
			t.Errorf("%s: %v, want %v", row[0], c.pure, want)
		}
	}
}

func TestExamples(t *testing.T) {
	checkValues(t, "op many flip : unit => bool op once get : unit => int op many fail : unit => int ", [][2]string{
		{"handle (if do flip () then 1 else 2) :: [] with { return x => x | flip u k => (case k true of [] => k false | a :: l => a :: (k false) end) }", "[1, 2]"},
		{"handle do get () + do get () with { return x => x | get u k => k 20 + 1 }", "42"},
		{"handle do get () + do get () with { return x => x | get u k => k 1 + k 2 }", "spent get"},
		{"shallow do get () + do get () with { return x => x | get u k => handle k 1 with { return y => y * 100 | get v j => j 5 } }", "600"},
		{"handle do get () + 1 with { return x => x | get u k => k 4 }", "5"}, {"handle do get () + 1 with { return x => x | get u k => k 4 + k 4 }", "spent get"},
		{"let safe f = handle f () with { return x => x | fail u k => 0 } in safe (fn u => 1 + do fail ())", "0"},
		{"let rec map f l = case l of [] => [] | x :: r => f x :: map f r end in map (fn x => x * x) [1, 2, 3]", "[1, 4, 9]"},
		{"let rec len l = case l of [] => 0 | x :: r => 1 + len r end in let rec map f l = case l of [] => [] | x :: r => f x :: map f r end in len (map (fn x => x) [])", "0"},
		{"let not b = (if b then false else true) in handle not (do flip ()) with { return x => x | flip u k => k true }", "false"},
	})
	checkTree(t, "def rec loop i = loop (i + 1) main = loop 0", 5000)
	checkTree(t, "op once tick : unit => int def rec loop i = (do tick (); loop (i - 1)) main = handle loop 2000 with { return x => x | tick u k => k 1 }", 5000)
}

// TestLoop: what resumes and forgets does not take more steps each time that it goes round.
func TestLoop(t *testing.T) {
	loop := "op once tick : unit => int def rec loop i = if i < 1 then 0 else (do tick (); loop (i - 1)) main = handle loop %d with { return x => x | tick u k => k 1 }"
	few, many := checkTree(t, fmt.Sprintf(loop, 100), 100000), checkTree(t, fmt.Sprintf(loop, 2000), 100000)
	if many.pure.Value != "0" || many.pure.Steps > 21*few.pure.Steps {
		t.Errorf("100 times %v, 2000 times %v", few, many)
	}
}

// TestPlain: where nothing is done the term is the core term, but for handlers.
func TestPlain(t *testing.T) {
	for _, text := range []string{
		"main = 1", "main = ~5 * (2 - 3)", "main = (true, [fst (1, ()), snd (2, 3)])", "main = if 1 < 2 then [] else [1]", "main = case [1] of [] => 2 | x :: r => x end", "main = 1; 2; 3", "main = let x = 1 in x", "main = fn x y => x",
		"def f x = x main = f", "def f x y = x main = (f, [f, f, f, f, f, f, f, f, f, f, f, f, f, f, f, f, f, f])", "def rec f n = if n < 1 then 0 else f (n - 1) main = f 3", "def f x = x + 1 def rec g x = f (g x) main = fn x => g (f x)",
		"def rec f n = (let g = f in if n < 1 then 0 else f (n - 1)) main = f 3",
	} {
		term, _ := core.Core(text)
		if pure := made(t, text); !reflect.DeepEqual(pure, term) {
			t.Errorf("%s: %v, want %v", text, pure, term)
		}
		checkTree(t, text, 1000)
	}
	for text, want := range map[string]string{
		"main = handle 1 with { return x => x + 1 | a p k => p }":                                             "2",
		"main = shallow 1 with { return x => (x, x) | a p k => (p, p) | b p k => (3, 4) }":                    "(1, 1)",
		"def f x = handle x with { return y => y * y | a p k => 1 } main = f (handle 5 with {return x => x})": "25",
		"main = handle (handle 1 with { return x => [x] | a p k => [2] }) with { return x => 0 :: x }":        "[0, 1]",
		"main = fn x => handle x with { return x => x | a p k => p }":                                         "fn",
	} {
		text = "op once a : int => int op many b : int => int " + text
		if most := mostOf(text); most != 0 {
			t.Errorf("%s: something is done there", text)
		}
		if c := checkTree(t, text, 1000); c.pure.Value != want {
			t.Errorf("%s: %v, want %s", text, c.pure, want)
		}
	}
}

// TestNotPlain: where a part is not calm, though nothing is done in the end.
func TestNotPlain(t *testing.T) {
	checkValues(t, "op once a : int => int ", [][2]string{
		{"1 + (let f g = g 1 + 1 in 2)", "3"}, {"let f g = g 1 in f (fn x => x)", "1"}, {"(fn g => g 1; 2, 3)", "(fn, 3)"}, {"(fn x => x) 1", "1"}, {"fn g => g 1", "fn"}, {"(fn u => do a 1; 5)", "fn"},
		{"handle 1 with { return x => x | a p k => k 1 }", "1"}, {"handle 1 with { return x => (fn y => x + y) 2 | a p k => p }", "3"}, {"shallow 7 with { return x => x | a p k => handle k 1 with { return x => x | a p k => 1 } }", "7"},
	})
	checkTree(t, "def f g = g 1 + g 2 main = 3", 100)
	checkTree(t, "op once a : int => int def f x = do a x main = 3", 100)
}

// TestOrder: each operation says where it stands; all of an expression are done from the left, and what is calm between them is there.
func TestOrder(t *testing.T) {
	for _, row := range [][2]string{
		{"(do ask 1, do ask 2)", "[1, 2]"}, {"do ask 1 + do ask 2 * do ask 3", "[1, 2, 3]"}, {"[do ask 1, do ask 2, do ask 3]", "[1, 2, 3]"}, {"do ask 1 < do ask 2", "[1, 2]"}, {"do ask 1 == do ask 2 - 1", "[1, 2]"},
		{"do ask (do ask 1 + do ask 2)", "[1, 2, 0]"}, {"(do ask 1; do ask 2); do ask 3", "[1, 2, 3]"}, {"let x = do ask 1 in do ask (x + 5)", "[1, 5]"}, {"let x = 3 in do ask x", "[3]"}, {"let x = do ask 3 in x", "[3]"},
		{"if do ask 1 < do ask 2 then do ask 3 else do ask 4", "[1, 2, 4]"}, {"if do ask 1 == do ask 2 then do ask 3 else do ask 4", "[1, 2, 3]"}, {"if 1 < 2 then do ask 3 else 4", "[3]"}, {"if 2 < 1 then do ask 3 else 4", "[]"}, {"if do ask 1 < 1 then 3 else 4", "[1]"},
		{"fst (do ask 1, 2) + snd (3, do ask 4)", "[1, 4]"}, {"case [do ask 1] of [] => do ask 2 | x :: r => do ask (x + 3) end", "[1, 3]"}, {"case [] of [] => do ask 2 | x :: r => do ask (x + 3) end", "[2]"}, {"case [do ask 5] of [] => 2 | x :: r => x end", "[5]"},
		{"case [6] of [] => 2 | x :: r => do ask x; do ask (sum (7 :: r)) end", "[6, 7]"},
		{"(do ask 1; fn x => do ask x) (do ask 2)", "[1, 2, 0]"}, {"(do ask 1; fn x => do ask 2; fn y => do ask 4) (do ask 3) (do ask 5)", "[1, 3, 2, 5, 4]"}, {"(fn x y => do ask (x + y)) (1 + 2) (do ask 9)", "[9, 3]"},
		{"add (do ask 1) (do ask 2)", "[1, 2]"}, {"add 1 (do ask 2)", "[2]"}, {"add (do ask 2) 1", "[2]"}, {"three (do ask 1) (sum [1]) (do ask 2)", "[1, 2]"}, {"map (fn x => do ask x) [4, 5, 6]", "[4, 5, 6]"}, {"twice (fn x => do ask 1; do ask 2; x) 3", "[1, 2, 1, 2]"},
		{"let f x = do ask x in f 1 + f 2", "[1, 2]"}, {"let rec f n = if n < 1 then 0 else (do ask n; f (n - 1)) in f 3", "[3, 2, 1]"}, {"let rec f n = if n < 1 then 0 else (f (n - 1); do ask n) in f 3", "[1, 2, 3]"},
		{"let rec f n = if n < 1 then 0 else (f (n - 1) + do ask n) + f (n - 2) in f 2", "[1, 2]"}, {"(1 + 2, do ask 1)", "[1]"}, {"(sum [1, 2] + 1) :: [do ask 3]", "[3]"}, {"(fn x => x) (1 + 2) + do ask 4", "[4]"},
		{"handle (do ask 1; do fork 2; do ask 3) with { return x => do ask 4; x | fork v k => do ask 8; k v; do ask 9; k v }", "[1, 8, 3, 4, 9, 3, 4]"},
		{"shallow (do ask 1; do fork 2; do ask 3) with { return x => do ask 4 | fork v k => do ask 8; handle k v with { return y => do ask 5 | fork v k => 1 } }", "[1, 8, 3, 5]"},
	} {
		checkValues(t, someOps+someDefs, [][2]string{{"handle (" + row[0] + ") with { return x => [] | ask v k => v :: k 0 }", row[1]}})
	}
}

// TestKept: what was evaluated ahead of an operation has its value behind it, each time that it is gone on with.
func TestKept(t *testing.T) {
	for _, row := range [][2]string{
		{"(7 + 1, do fork 0)", "[(8, 1), (8, 2)]"}, {"(do fork 0, 8)", "[(1, 8), (2, 8)]"}, {"(do fork 0, do fork 0)", "[(1, 1), (1, 2), (2, 1), (2, 2)]"}, {"let x = 3 * 3 in x - do fork 0", "[8, 7]"}, {"(fn x => x + 10) (do fork 0)", "[11, 12]"},
		{"(add 10) (do fork 0)", "[11, 12]"}, {"(if do fork 0 < 2 then add 1 else add 5) 4", "[5, 9]"}, {"fst (do fork 0, 1) + 1", "[2, 3]"}, {"(1 + 1) :: do fork 0 :: []", "[[2, 1], [2, 2]]"}, {"case [do fork 0] of [] => 0 | x :: r => x * 2 end", "[2, 4]"},
		{"let rec f n = if n < 1 then [] else do fork n :: f (n - 1) in f 2", "[[1, 1], [1, 2], [2, 1], [2, 2]]"}, {"sum [do fork 0, do fork 0]", "[2, 3, 3, 4]"}, {"let f = (let x = do fork 0 in fn y => x * y) in (f 3, f 5)", "[(3, 5), (6, 10)]"},
		{"map (fn x => x + do fork 0) [10, 20]", "[[11, 21], [11, 22], [12, 21], [12, 22]]"}, {"do fork 0; do fork 0; 5", "[5, 5, 5, 5]"}, {"do fork (do fork 1)", "[1, 2, 1, 2]"},
	} {
		checkValues(t, someOps+someDefs, [][2]string{{"handle " + bracketed(row[0]) + " with { return x => [x] | fork v k => append (k 1) (k 2) }", row[1]}})
	}
}

// TestAhead: what goes on for ever ahead of an operation does so, though the clause would not have needed it; behind it it is not begun.
func TestAhead(t *testing.T) {
	defs := someOps + "def rec loop i = loop (i + 1) def rec other f i = other f (f i) "
	for _, part := range []string{"(%s, do get ())", "%s + do get ()", "(%s :: [do get ()]; 1)", "(let f x = fn y => y in f %s (do get ()))", "(fn x y => y) %s (do get ())", "let x = %s in do get ()", "(%s; do get ())", "if %s < 1 then do get () else 2", "do ask %s", "add %s (do get ())"} {
		for _, ever := range []string{"(loop 0)", "(other (fn x => x) 0)"} {
			part := fmt.Sprintf(part, ever)
			c := checkTree(t, defs+"def add x y = x + y main = handle ("+part+") with { return x => 1 | get u k => 7 | ask v k => 7 }", 4000)
			if c.text.Kind != api.Going {
				t.Errorf("%s: %v", part, c)
			}
		}
	}
	for _, part := range []string{"(do get (), loop 0)", "do get () + loop 0", "(do get (); loop 0)", "let x = do get () in loop 0", "loop (do get ())", "(fn x y => y) (do get ()) (loop 0)"} {
		checkValues(t, defs, [][2]string{{"handle (" + part + ") with { return x => 1 | get u k => 7 }", "7"}})
	}
}

func bracketed(text string) string { return "(" + text + ")" }
