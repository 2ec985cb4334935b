package machine_test

import (
	"testing"

	"effectus/api"
	"effectus/core"
	"effectus/meaning"
)

const head = `op many flip : unit => bool op once get : unit => int op once put : int => unit op many fail : int => int op many emit : int => unit
	def rec append a b = case a of [] => b | x :: r => x :: append r b end
	def rec map f l = case l of [] => [] | x :: r => f x :: map f r end
	def rec upto n = if n < 1 then [] else append (upto (n - 1)) [n]
	def rec state n f = (shallow f () with { return x => (x, n) | get u k => state n (fn v => k n) | put m k => state m (fn v => k ()) })
	def deepstate n f = (handle f () with { return x => fn s => (x, s) | get u k => fn s => k s s | put m k => fn s => k () m }) n
	def all f = handle f () with { return x => [x] | flip u k => append (k true) (k false) }
	def emitted f = handle f () with { return x => [] | emit n k => n :: k () }
	def rec take n f = if n < 1 then [] else (shallow f () with { return x => [] | emit m k => m :: take (n - 1) (fn u => k ()) })
	def rec from n = do emit n; from (n + 1)
	def rec times n f = if n < 1 then () else (f n; times (n - 1) f)
	def not b = if b then false else true
	`

var codeOps = []api.CodeOp{{Name: "flip"}, {Name: "get", Once: true}, {Name: "put", Once: true}, {Name: "fail"}, {Name: "emit"}}

// TestPrograms: the code of a program does what the program means.
func TestPrograms(t *testing.T) {
	for _, row := range [][2]string{
		{"i", "1 + 2 * 3"}, {"b", "1 < 2"}, {"b", "not (3 == 4)"}, {"u", "()"}, {"f", "fn x => x"}, {"plib", "(upto 4, false)"},
		{"li", "map (fn x => x * x) [1, 2, 3]"}, {"lpib", "map (fn x => (x, x < 2)) (upto 3)"}, {"li", "upto 12"}, {"lli", "map upto (upto 4)"},
		{"i", "let x = 5 in let f = fn y => x * y in let x = 100 in f x"}, {"i", "let rec fac n = if n < 2 then 1 else n * fac (n - 1) in fac 20"},
		{"i", "handle do get () + do get () with { return x => x | get u k => k 20 + 1 }"},
		{"i", "handle do get () + do get () with { return x => x | get u k => k 1 + k 2 }"},
		{"i", "shallow do get () + do get () with { return x => x | get u k => handle k 1 with { return y => y * 100 | get v j => j 5 } }"},
		{"lpbb", "handle (do flip (), do flip ()) with { return x => [x] | flip u k => case k true of [] => k false | a :: l => a :: k false end }"},
		{"lpbpbb", "all (fn u => (do flip (), (do flip (), do flip ())))"},
		{"li", "all (fn u => (if do flip () then 1 else 2) + (if do flip () then 10 else 20))"},
		{"pii", "state 5 (fn u => do put (do get () + 1); do put (do get () * 2); do get () + 100)"},
		{"pii", "deepstate 5 (fn u => do put (do get () + 1); do put (do get () * 2); do get () + 100)"},
		{"pui", "state 0 (fn u => times 20 (fn n => do put (do get () + n)))"}, {"pui", "deepstate 0 (fn u => times 20 (fn n => do put (do get () + n)))"},
		{"li", "emitted (fn u => times 6 (fn n => do emit n))"}, {"li", "take 4 (fn u => from 10)"}, {"li", "take 0 (fn u => from 10)"},
		{"li", "take 9 (fn u => times 3 (fn n => do emit n))"},
		{"plii", "state 7 (fn u => emitted (fn v => do emit (do get ()); do put 9; do emit (do get ())))"},
		{"lpii", "all (fn u => deepstate 7 (fn v => (if do flip () then do put 1 else ()); do get ()))"},
		{"plii", "state 7 (fn v => all (fn u => (if do flip () then do put 1 else ()); do get ()))"},
		{"i", "handle 1 + do fail 5 with { return x => x | fail n k => n }"}, {"i", "handle 1 + do fail 5 with { return x => x * 2 | fail n k => k n + k (n + 1) }"},
		{"i", "handle (handle do get () + do fail 3 with { return x => x + 1 | fail n k => k (n + do get ()) }) with { return x => x * 2 | get u k => k 10 }"},
		{"i", "handle (shallow do fail 1 + do get () with { return x => 0 | fail n k => handle k n with { return x => x * 3 | fail m j => m } }) with { return x => x + 1 | get u k => k 10 }"},
		{"i", "shallow do fail 1 + do fail 2 with { return x => 0 | fail n k => handle k n with { return x => x + 1 | fail n k => k (n * 10) } }"},
		{"f", "handle do fail 1 with { return x => fn y => x + y | fail n k => fn y => k y (n + y) }"}, {"i", "(handle do fail 1 with { return x => fn y => x + y | fail n k => fn y => k y (n + y) }) 4"},
		{"lf", "map (fn x => fn y => x) [1, 2]"}, {"li", "handle map (fn x => do fail x) [1, 2, 3] with { return x => x | fail n k => append (k n) (k (0 - n)) }"},
		{"i", "handle (fn k => k (k 1)) (fn x => do fail x) with { return x => x | fail n k => k (n + 5) }"},
	} {
		text := head + "main = " + row[1]
		want, fault := meaning.Run(text, api.MaxFuel)
		term, _ := core.Core(text)
		if fault != (api.Fault{}) || want.Kind != api.Done && want.Kind != api.Spent {
			t.Fatalf("%s: %+v %v", row[1], want, fault)
		}
		got := play(t, compile(term, row[0], codeOps), api.MaxHeap/10, api.MaxFuel)
		if got.Kind != want.Kind || got.Value != want.Value || got.Op != want.Op {
			t.Errorf("%s: %+v, want %+v", row[1], got, want)
		}
	}
}

// TestEndless: what goes on without an end does so for as long as there is fuel, in a small heap.
func TestEndless(t *testing.T) {
	for text, cells := range map[string]int{
		"def rec loop i = loop (i + 1) main = loop 0": 10,
		"op once tick : unit => int def rec loop i = do tick (); loop (i + 1) main = handle loop 0 with { return x => x | tick u k => k 1 }":                                                                60,
		"op many tick : unit => int def rec loop i = do tick (); loop (i + 1) main = handle loop 0 with { return x => x | tick u k => k 1 }":                                                                60,
		"op once a : int => int op once b : int => int def rec loop i = loop (do a (do b i)) main = handle handle loop 0 with { return x => x | a n k => k (n + 1) } with { return x => x | b n k => k n }": 120,
	} {
		term, fault := core.Core(text)
		if fault != (api.Fault{}) {
			t.Fatalf("%s: %v", text, fault)
		}
		ops := []api.CodeOp{{Name: "a", Once: true}, {Name: "b"}}
		if got := play(t, compile(term, "i", ops), cells, api.MaxFuel); got != (api.Outcome{Steps: api.MaxFuel}) {
			t.Errorf("%s: %+v", text, got)
		}
	}
}

// TestTicks: a loop that resumes and forgets is done on a heap of 2000 cells.
func TestTicks(t *testing.T) {
	term, fault := core.Core("op once tick : unit => int def rec loop i = if i < 1 then 0 else (do tick (); loop (i - 1)) main = handle loop 2000 with { return x => x | tick u k => k 1 }")
	if fault != (api.Fault{}) {
		t.Fatal(fault)
	}
	got := play(t, compile(term, "i", []api.CodeOp{{Name: "tick", Once: true}}), 2000, api.MaxFuel)
	if got.Kind != api.Done || got.Value != "0" {
		t.Errorf("%+v", got)
	}
}
