package meaning_test

import (
	"math"
	"strings"
	"testing"

	"effectus/api"
	"effectus/infer"
	"effectus/meaning"
)

// plenty is more fuel than any of the short texts takes.
const plenty = 20000

func run(t *testing.T, text string, fuel int) api.Outcome {
	t.Helper()
	outcome, fault := meaning.Run(text, fuel)
	if fault != (api.Fault{}) {
		t.Errorf("%s: fault %v", text, fault)
	}
	return outcome
}

// checkEnds has of each main, behind what stands ahead of it, what is told of how it ends.
func checkEnds(t *testing.T, ahead string, table [][2]string, ended func(told string) api.Outcome) {
	t.Helper()
	for _, row := range table {
		outcome := run(t, ahead+"main = "+row[0], plenty)
		outcome.Steps = 0
		if outcome != ended(row[1]) {
			t.Errorf("%s: %v, want %s", row[0], outcome, row[1])
		}
	}
}

// checkValues has of each main its value.
func checkValues(t *testing.T, ahead string, table [][2]string) {
	t.Helper()
	checkEnds(t, ahead, table, func(value string) api.Outcome { return api.Outcome{Kind: api.Done, Value: value} })
}

// checkSpent has of each main the operation whose resumption is applied again.
func checkSpent(t *testing.T, ahead string, table [][2]string) {
	t.Helper()
	checkEnds(t, ahead, table, func(op string) api.Outcome { return api.Outcome{Kind: api.Spent, Op: op} })
}

func TestExamples(t *testing.T) {
	flipGet := "op many flip : unit => bool op once get : unit => int "
	checkValues(t, flipGet, [][2]string{
		{"handle (if do flip () then 1 else 2) :: [] with { return x => x | flip u k => (case k true of [] => k false | a :: l => a :: (k false) end) }", "[1, 2]"},
		{"handle do get () + do get () with { return x => x | get u k => k 20 + 1 }", "42"},
		{"shallow do get () + do get () with { return x => x | get u k => handle k 1 with { return y => y * 100 | get v j => j 5 } }", "600"},
		{"handle do get () + 1 with { return x => x | get u k => k 4 }", "5"},
		// k false comes to two pairs here, and both are behind the first one: the document's list lacks the last
		{"handle (do flip (), do flip ()) with { return x => [x] | flip u k => case k true of [] => k false | a :: l => a :: k false end }", "[(true, true), (false, true), (false, false)]"},
	})
	checkSpent(t, flipGet, [][2]string{
		{"handle do get () + do get () with { return x => x | get u k => k 1 + k 2 }", "get"},
		{"handle do get () + 1 with { return x => x | get u k => k 4 + k 4 }", "get"},
	})
	checkValues(t, "op many fail : unit => int def safe f = handle f () with { return x => x | fail u k => 0 } ", [][2]string{{"safe (fn u => 1 + do fail ())", "0"}})
	checkValues(t, "def rec map f l = case l of [] => [] | x :: r => f x :: map f r end ", [][2]string{{"map (fn x => x * x) [1, 2, 3]", "[1, 4, 9]"}})
	loop := "def rec loop i = loop (i + 1) main = loop 0"
	for _, fuel := range []int{0, 1, 2, 1000, api.MaxFuel} {
		if outcome := run(t, loop, fuel); outcome != (api.Outcome{Kind: api.Going, Steps: fuel}) {
			t.Errorf("with %d: %v", fuel, outcome)
		}
	}
}

// TestFaults: those of Infer come ahead of a fuel that may not be.
func TestFaults(t *testing.T) {
	fuels := []int{0, 1, plenty, api.MaxFuel, -1, api.MaxFuel + 1, math.MinInt, math.MaxInt}
	for _, text := range []string{
		"", "main", "main = ", "main = $", "main = 007", "main = x", "main = 1 2", "main = (1", "main = 1 + true", "main = do get ()",
		"op once get : unit => int main = do get ()", "op many fail : unit => int main = handle do fail () with { return x => do fail () | fail u k => 1 }",
		"def f x = x def f x = x main = 1", "def f x = x x main = 1", "op once a : int => int op once a : int => int main = 1",
		"main = " + strings.Repeat("(", api.MaxDepth) + "1" + strings.Repeat(")", api.MaxDepth), strings.Repeat(" ", api.MaxText+1), "main = 1" + strings.Repeat(" ", api.MaxText),
		"def f " + strings.Repeat("a ", api.MaxType) + "= 1 main = 1",
	} {
		_, want := infer.Infer(text)
		if want.Kind == api.OK {
			t.Errorf("%.40s: has types", text)
		}
		for _, fuel := range fuels {
			if outcome, fault := meaning.Run(text, fuel); outcome != (api.Outcome{}) || fault != want {
				t.Errorf("%.40s with %d: %v %v, want %v", text, fuel, outcome, fault, want)
			}
		}
	}
	for _, fuel := range fuels[4:] {
		for _, text := range []string{"main = 1", "def rec loop i = loop (i + 1) main = loop 0"} {
			if outcome, fault := meaning.Run(text, fuel); outcome != (api.Outcome{}) || fault != (api.Fault{Kind: api.ErrArg}) {
				t.Errorf("%s with %d: %v %v", text, fuel, outcome, fault)
			}
		}
	}
}

// TestSteps: each expression whose evaluation begins takes one.
func TestSteps(t *testing.T) {
	for _, row := range []struct {
		text  string
		steps int
	}{
		{"main = 1", 1}, {"main = ~3", 1}, {"main = true", 1}, {"main = ()", 1}, {"main = []", 1}, {"main = fn x => x", 1}, {"main = fn x y => x", 1}, {"main = ((1))", 1},
		{"main = (fn x => x) 1", 4}, {"main = (fn x y => x) 1", 4}, {"main = (fn x y => x) 1 2", 7}, {"main = (fn x y z => z) 1 2 3", 10},
		{"main = let x = 1 in x", 3}, {"main = let x = 1 in 2", 3}, {"main = let f x = x in f 1", 6}, {"main = let rec f x = x in f 1", 6}, {"main = let rec f x = x in 1", 3},
		{"main = let rec f x = if x < 1 then 7 else f (x - 1) in f 1", 19}, {"main = 1; 2", 3}, {"main = 1; 2; 3", 5},
		{"main = if true then 1 else 2 + 3", 3}, {"main = if false then 1 else 2 + 3", 5}, {"main = (1, 2)", 3}, {"main = fst (1, 2)", 4}, {"main = snd (1, 2)", 4},
		{"main = 1 :: []", 3}, {"main = [1]", 3}, {"main = [1, 2]", 5}, {"main = case [] of [] => 1 | x :: r => x + 1 end", 3}, {"main = case [1] of [] => 1 | x :: r => x + 1 end", 7},
		{"main = 1 + 2", 3}, {"main = 1 - 2", 3}, {"main = 1 * 2", 3}, {"main = 1 < 2", 3}, {"main = 1 == 2", 3}, {"main = 1 + 2 * 3", 5},
		{"def f x = x main = 1", 2}, {"def f x y = x main = 1", 2}, {"def rec f x = f x main = 1", 2}, {"def f x = x def g x = x def rec h x = x main = 1", 4},
		{"def f x y = x main = f 1 2", 8}, {"def rec f x = x main = f 1", 5}, {"main = handle 1 with { return x => x }", 3}, {"main = shallow 1 with { return x => (x, x) }", 5},
		{"op once get : unit => int main = 1", 1},
		{"op once get : unit => int main = handle do get () with { return x => x | get u k => 7 }", 4},
		{"op once get : unit => int main = handle do get () with { return x => x | get u k => k 7 }", 7},
		{"op once get : unit => int main = handle do get () + 1 with { return x => x | get u k => k 7 }", 9},
		{"op once get : unit => int main = handle do get () + 1 with { return x => x | get u k => k 7 + k 8 }", 13},
		{"op once get : unit => int main = handle do get () + 1 with { return x => x | get u k => (k 7; k 8) }", 13},
		{"op many get : unit => int main = handle do get () + 1 with { return x => x | get u k => k 7 + k 8 }", 15},
		{"op many get : unit => int main = handle do get () + do get () with { return x => x | get u k => k 7 }", 13},
		{"op many get : unit => int main = shallow do get () with { return x => x + 1 | get u k => handle k 7 with { return x => x | get u k => k 9 } }", 8},
	} {
		outcome := run(t, row.text, plenty)
		if outcome.Kind == api.Going || outcome.Steps != row.steps {
			t.Errorf("%s: %v, want %d", row.text, outcome, row.steps)
		}
		checkFuels(t, row.text, outcome)
	}
}

// checkFuels: with less fuel than it takes a run is Going, with more it is the same.
func checkFuels(t *testing.T, text string, ended api.Outcome) {
	t.Helper()
	for fuel := range ended.Steps {
		if outcome := run(t, text, fuel); outcome != (api.Outcome{Kind: api.Going, Steps: fuel}) {
			t.Errorf("%s with %d: %v", text, fuel, outcome)
		}
	}
	for _, fuel := range []int{ended.Steps, ended.Steps + 1, api.MaxFuel} {
		if outcome := run(t, text, fuel); outcome != ended {
			t.Errorf("%s with %d: %v, want %v", text, fuel, outcome, ended)
		}
	}
}

func TestValues(t *testing.T) {
	checkValues(t, "", [][2]string{
		{"0", "0"}, {"12", "12"}, {"~12", "-12"}, {"~0", "0"}, {"true", "true"}, {"false", "false"}, {"()", "()"}, {"[]", "[]"}, {"[[]]", "[[]]"}, {"fn x => x", "fn"},
		{"[1, ~2, 3]", "[1, -2, 3]"}, {"(1, 2)", "(1, 2)"}, {"((1, 2), (true, ()))", "((1, 2), (true, ()))"}, {"[(1, fn x => x), (2, fn y => 1)]", "[(1, fn), (2, fn)]"}, {"[[1], [], [2, 3]]", "[[1], [], [2, 3]]"},
		{"9223372036854775807", "9223372036854775807"}, {"~9223372036854775807", "-9223372036854775807"}, {"~9223372036854775807 - 1", "-9223372036854775808"},
		{"9223372036854775807 + 1", "-9223372036854775808"}, {"~9223372036854775807 - 2", "9223372036854775807"}, {"9223372036854775807 * 2", "-2"}, {"(0 - 9223372036854775807 - 1) * ~1", "-9223372036854775808"},
		{"4294967296 * 4294967296", "0"}, {"3037000500 * 3037000500", "-9223372036709301616"}, {"7 - 9", "-2"}, {"2 * 3 - 4 * 5", "-14"}, {"10 - 3 - 2", "5"},
		{"1 < 2", "true"}, {"2 < 1", "false"}, {"1 < 1", "false"}, {"~1 < 0", "true"}, {"0 < ~1", "false"}, {"9223372036854775807 + 1 < 0", "true"}, {"1 == 1", "true"}, {"1 == 2", "false"}, {"0 == ~0", "true"},
		{"if true then 1 else 2", "1"}, {"if false then 1 else 2", "2"}, {"fst (1, 2)", "1"}, {"snd (1, 2)", "2"}, {"1; true", "true"}, {"1 :: 2 :: []", "[1, 2]"},
		{"case [] of [] => 1 | x :: r => 2 end", "1"}, {"case [5, 6, 7] of [] => (0, []) | x :: r => (x, r) end", "(5, [6, 7])"}, {"case [5, 6] of [] => [] | x :: x => x end", "[6]"},
		{"let x = 1 in x + 1", "2"}, {"let x = 1 in let x = x + 1 in x", "2"}, {"let x = 1 in (let x = 2 in x) + x", "3"}, {"let x = 1 in let f y = x + y in let x = 10 in f x", "11"},
		{"(fn x x => x) 1 2", "2"}, {"(fn x y => (x, y)) 1 2", "(1, 2)"}, {"let add x y = x + y in let inc = add 1 in (inc 2, inc 3)", "(3, 4)"},
		{"let rec f n = if n < 1 then 0 else n + f (n - 1) in f 10", "55"}, {"let rec f f = f in f 3", "3"}, {"let f x = 1 in let rec f x = if x < 1 then 7 else f (x - 1) in f 3", "7"},
		{"let f x = 1 in let f x = if x < 1 then 7 else f (x - 1) in f 3", "1"}, {"let rec f x y = if x < 1 then y else f (x - 1) (y * 2) in f 10 1", "1024"},
	})
	checkValues(t, "def one x = 1 def rec f x = if x < 1 then one x else 2 * f (x - 1) def g x = let one = 5 in f x + one ", [][2]string{
		{"f 5", "32"}, {"g 5", "37"}, {"one", "fn"}, {"let one x = 100 in f 5", "32"}, {"let f x = 0 in g 1", "7"}, {"(f, [g])", "(fn, [fn])"},
	})
}

// TestOrder: what is said is said from the left.
func TestOrder(t *testing.T) {
	ahead := "op many say : int => int def said f = handle f () with { return x => [] | say v k => v :: k v } "
	for _, row := range [][2]string{
		{"do say 1 + do say 2", "[1, 2]"}, {"do say 1 - do say 2 * do say 3", "[1, 2, 3]"}, {"do say 1 < do say 2", "[1, 2]"}, {"do say 1 == do say 2", "[1, 2]"},
		{"(do say 1, do say 2)", "[1, 2]"}, {"[do say 1, do say 2, do say 3]", "[1, 2, 3]"}, {"do say 1 :: (do say 2; [])", "[1, 2]"}, {"do say 1; do say 2; do say 3", "[1, 2, 3]"},
		{"(do say 1; fn x => do say 3) (do say 2)", "[1, 2, 3]"}, {"(do say 1; fn x => (do say 3; fn y => do say 5)) (do say 2) (do say 4)", "[1, 2, 3, 4, 5]"},
		{"let x = do say 1 in do say 2", "[1, 2]"}, {"let f x = do say 1 in do say 2", "[2]"}, {"let rec f x = do say 1 in do say 2", "[2]"}, {"fn x => do say 1", "[]"},
		{"if do say 1 == 1 then do say 2 else do say 3", "[1, 2]"}, {"if do say 1 == 2 then do say 2 else do say 3", "[1, 3]"},
		{"case [do say 1] of [] => do say 2 | x :: r => do say 3 end", "[1, 3]"}, {"case (do say 1; []) of [] => do say 2 | x :: r => do say 3 end", "[1, 2]"},
		{"fst (do say 1, do say 2)", "[1, 2]"}, {"snd (do say 1, do say 2)", "[1, 2]"}, {"do say (do say 1 + 1)", "[1, 2]"},
		{"handle do say 1 with { return x => do say 2 }", "[1, 2]"}, {"shallow do say 1 with { return x => do say 2 }", "[1, 2]"},
	} {
		checkValues(t, ahead, [][2]string{{"said (fn u => " + row[0] + ")", row[1]}})
	}
}
