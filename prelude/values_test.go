package prelude_test

import (
	"testing"

	"effectus/prelude"
)

// joining is a def of a caller.
const joining = "def rec append a b = case a of [] => b | x :: r => x :: append r b end "

func TestState(t *testing.T) {
	checkValues(t, prelude.Text("state"), [][2]string{
		{"state 5 (fn u => (let a = do get () in do put (a * 2); do get () + a))", "(15, 10)"}, {"state 5 (fn u => 1)", "(1, 5)"}, {"state 5 (fn u => u)", "((), 5)"}, {"state 5 (fn u => do get ())", "(5, 5)"}, {"state 5 (fn u => do put 6)", "((), 6)"}, {"state ~5 (fn u => [do get (), do get ()])", "([-5, -5], -5)"},
		{"state 1 (fn u => (do put 2; do put 3))", "((), 3)"}, {"state 1 (fn u => (do put 2; do put 3; do get ()))", "(3, 3)"}, {"state 1 (fn u => (do put (do get ()); do get ()))", "(1, 1)"}, {"state 1 (fn u => [do get (), (do put 2; do get ()), do get ()])", "([1, 2, 2], 2)"},
		{"state 1 (fn u => (do get (), (do put (do get () + 1), do get ())))", "((1, ((), 2)), 2)"}, {"state 9223372036854775807 (fn u => do put (do get () + 1))", "((), -9223372036854775808)"}, {"state 3 (fn u => fn v => 1)", "(fn, 3)"}, {"(fst (state 1 (fn u => fn v => v + 1))) 7", "8"},
		{"state 0 (fn u => let rec f n = if n < 1 then 0 else (do put (do get () + n); 1 + f (n - 1)) in f 10)", "(10, 55)"}, {"state 2 (fn u => if do get () < 3 then (do put 3; true) else false)", "(true, 3)"}, {"let f = state 1 in (snd (f (fn u => do put 2)), snd (f (fn u => ())))", "(2, 1)"},
		{"state 1 (fn u => handle do get () + do get () with { return x => x * 10 | get v k => k 7 })", "(140, 1)"}, {"state 1 (fn u => handle (do put 4; do get ()) with { return x => x | put n k => k () })", "(1, 1)"}, {"state (fst (state 1 (fn u => do get () + 1))) (fn u => do get ())", "(2, 2)"},
		{"state 1 (fn u => (fst (state 2 (fn v => (do put 5; do get ()))), do get ()))", "((5, 1), 1)"},
	})
	checkNotes(t, "state", [][2]string{
		{"state 1 (fn u => do note (do get ()) + do note 5)", "((6, 1), [1, 5])"}, {"state (do note 3) (fn u => (do put 4; do note (do get ()); do get ()))", "((4, 4), [3, 4])"},
	})
	// What another operation has left goes on with the number that there was when it was done.
	checkValues(t, "op many pick : unit => bool "+prelude.Text("state")+joining, [][2]string{
		{"handle state 0 (fn u => (do put (do get () + 1); (if do pick () then do put (do get () + 10) else ()); do get ())) with { return x => [x] | pick u k => append (k true) (k false) }", "[(11, 11), (1, 1)]"},
	})
}

func TestAll(t *testing.T) {
	checkValues(t, prelude.Text("choose")+joining, [][2]string{
		{"all (fn u => if do flip () then 1 else if do flip () then 2 else 3)", "[1, 2, 3]"}, {"all (fn u => 1)", "[1]"}, {"all (fn u => u)", "[()]"}, {"all (fn u => do flip ())", "[true, false]"}, {"all (fn u => [do flip ()])", "[[true], [false]]"}, {"all (fn u => (fn v => do flip ()))", "[fn]"},
		{"all (fn u => (do flip (), do flip ()))", "[(true, true), (true, false), (false, true), (false, false)]"}, {"all (fn u => if do flip () then (if do flip () then 1 else 2) else 3)", "[1, 2, 3]"}, {"all (fn u => if do flip () then 1 else 2; if do flip () then 3 else 4)", "[1, 3, 4]"}, {"all (fn u => (do flip (); 7))", "[7, 7]"},
		{"all (fn u => let rec f n = if n < 1 then 0 else (if do flip () then 1 else 0) + 2 * f (n - 1) in f 3)", "[7, 3, 5, 1, 6, 2, 4, 0]"}, {"all (fn u => let rec f n = if do flip () then n else if 3 < n then 100 else f (n + 1) in f 0)", "[0, 1, 2, 3, 4, 100]"},
		{"all (fn u => handle (do flip (), do flip ()) with { return x => x | flip v k => k false })", "[(false, false)]"}, {"all (fn u => handle (do flip (), 1) with { return x => [x] | flip v k => append (k true) (k (do flip ())) })", "[[(true, 1), (true, 1)], [(true, 1), (false, 1)]]"},
		{"all (fn u => (do flip (), all (fn v => do flip ())))", "[(true, [true, false]), (false, [true, false])]"}, {"all (fn u => first (fn v => if do flip () then false else do flip ()))", "[[false, true]]"},
	})
	checkNotes(t, "choose", [][2]string{
		{"all (fn u => if do flip () then do note 1 else do note 2)", "([1, 2], [1, 2])"}, {"all (fn u => (do note 0; let a = do flip () in do note (if a then 1 else 2); let b = do flip () in do note (if b then 3 else 4)))", "([3, 4, 3, 4], [0, 1, 3, 4, 2, 3, 4])"},
	})
}

func TestFirst(t *testing.T) {
	checkValues(t, prelude.Text("choose"), [][2]string{
		{"first (fn u => if do flip () then false else do flip ())", "[false, true]"}, {"first (fn u => true)", "[]"}, {"first (fn u => false)", "[]"}, {"first (fn u => do flip ())", "[true]"}, {"first (fn u => if do flip () then false else true)", "[false]"}, {"first (fn u => (do flip (); do flip (); false))", "[]"},
		{"first (fn u => (do flip (); do flip ()))", "[true, true]"}, {"first (fn u => (do flip (); do flip (); true))", "[true, true]"}, {"first (fn u => if do flip () then (if do flip () then false else do flip ()) else true)", "[true, false, true]"}, {"first (fn u => if do flip () then (do flip (); do flip (); false) else (do flip (); true))", "[false, true]"},
		{"first (fn u => let rec f n = if n < 1 then 0 else (if do flip () then 1 else 0) + 2 * f (n - 1) in f 4 == 6)", "[false, true, true, false]"}, {"first (fn u => let rec f n = if n < 1 then 0 else (if do flip () then 1 else 0) + 2 * f (n - 1) in f 4 == 0)", "[false, false, false, false]"},
		{"first (fn u => handle (do flip (); true) with { return x => x | flip v k => k false })", "[]"}, {"first (fn u => if do flip () then (case first (fn v => if do flip () then false else true) of [] => true | a :: l => a end) else true)", "[false]"},
		{"let rec spin u = spin u in first (fn u => if do flip () then true else spin ())", "[true]"}, {"let rec spin u = spin u in first (fn u => if do flip () then false else if do flip () then true else spin ())", "[false, true]"},
	})
	checkNotes(t, "choose", [][2]string{
		{"first (fn u => if do flip () then do note 1 < 1 else if do flip () then do note 2 == 2 else do note 3 == 3)", "([false, true], [1, 2])"}, {"first (fn u => do note 1 < 1)", "([], [1])"},
	})
}

func TestEmitted(t *testing.T) {
	checkValues(t, prelude.Text("gen"), [][2]string{
		{"emitted (fn u => (do emit 1; do emit 2))", "[1, 2]"}, {"emitted (fn u => 1)", "[]"}, {"emitted (fn u => u)", "[]"}, {"emitted (fn u => do emit ~7)", "[-7]"}, {"emitted (fn u => (do emit 3; do emit 3; [1]))", "[3, 3]"}, {"emitted (fn u => (do emit 1, (do emit 2; 5) + (do emit 3; 6)))", "[1, 2, 3]"},
		{"emitted (fn u => let rec f n = if n < 1 then 0 else (do emit n; 1 + f (n - 1)) in f 5)", "[5, 4, 3, 2, 1]"}, {"emitted (fn u => let rec f n = if n < 1 then () else (f (n - 1); do emit n; f (n - 1)) in f 3)", "[1, 2, 1, 3, 1, 2, 1]"},
		{"emitted (fn u => handle (do emit 1; do emit 2) with { return x => do emit 9 | emit n k => (k (); do emit (n * 10)) })", "[9, 20, 10]"}, {"emitted (fn u => case emitted (fn v => (do emit 4; do emit 5)) of [] => () | x :: l => do emit (x + 1) end)", "[5]"},
	})
	checkNotes(t, "gen", [][2]string{{"emitted (fn u => (do note 1; do emit (do note 2); do note 3))", "([2], [1, 2, 3])"}})
}

func TestTake(t *testing.T) {
	const spin = "let rec spin u = spin u in "
	checkValues(t, prelude.Text("gen"), [][2]string{
		{"let rec from n = (do emit n; from (n + 1)) in take 3 (fn u => from 7)", "[7, 8, 9]"}, {"take 0 (fn u => do emit 1)", "[]"}, {"take ~1 (fn u => do emit 1)", "[]"}, {"take (0 - 9223372036854775807 - 1) (fn u => do emit 1)", "[]"}, {"take 1 (fn u => do emit 1)", "[1]"}, {"take 2 (fn u => do emit 1)", "[1]"}, {"take 5 (fn u => 1)", "[]"},
		{"take 9223372036854775807 (fn u => (do emit 1; do emit 2))", "[1, 2]"}, {"take 1 (fn u => (do emit 1; do emit 2))", "[1]"}, {"take 2 (fn u => (do emit 1; do emit 2; do emit 3; ()))", "[1, 2]"}, {"take 3 (fn u => (do emit 1; do emit 2; do emit 3; true))", "[1, 2, 3]"}, {"take 4 (fn u => (do emit 1; do emit 2; do emit 3))", "[1, 2, 3]"},
		{spin + "take 0 (fn u => spin ())", "[]"}, {spin + "take ~3 spin", "[]"}, {spin + "take 1 (fn u => (do emit 1; spin ()))", "[1]"}, {spin + "take 2 (fn u => (do emit 1; do emit 2; spin (); do emit 3))", "[1, 2]"}, {"take 2 (fn u => (do emit 1; emitted (fn v => (do emit 2; do emit 3)); do emit 4; do emit 5))", "[1, 4]"},
		{"let rec f n = (do emit n; 1 + f (n * 2)) in take 10 (fn u => f 1)", "[1, 2, 4, 8, 16, 32, 64, 128, 256, 512]"}, {"(take 1 (fn u => do emit 1), take 1 (fn u => do emit 2))", "([1], [2])"}, {"take 2 (fn u => (case take 2 (fn v => (do emit 5; do emit 6)) of [] => 0 | x :: l => (do emit x; 1) end))", "[5]"},
	})
	checkNotes(t, "gen", [][2]string{
		{"take 0 (fn u => (do note 1; do emit 5; do note 2; do emit 6; do note 3))", "([], [])"}, {"take 1 (fn u => (do note 1; do emit 5; do note 2; do emit 6; do note 3))", "([5], [1])"}, {"take 2 (fn u => (do note 1; do emit 5; do note 2; do emit 6; do note 3))", "([5, 6], [1, 2])"},
		{"take 3 (fn u => (do note 1; do emit 5; do note 2; do emit 6; do note 3))", "([5, 6], [1, 2, 3])"}, {"take ~1 (fn u => do note 1)", "([], [])"}, {"take 1 (fn u => do note 1)", "([], [1])"},
	})
}

func TestRun(t *testing.T) {
	const thread = "def rec thread n m = if m < 1 then () else (do say (n * 10 + m); do yield (); thread n (m - 1)) "
	checkValues(t, prelude.Text("sched")+thread, [][2]string{
		{"run (fn u => (do fork (fn v => (do say 1; do yield (); do say 2)); do say 3; do yield (); do say 4))", "[3, 1, 4, 2]"}, {"run (fn u => u)", "[]"}, {"run (fn u => do say ~1)", "[-1]"}, {"run (fn u => do yield ())", "[]"}, {"run (fn u => (do say 1; do yield (); do yield (); do say 2))", "[1, 2]"}, {"run (fn u => do fork (fn v => v))", "[]"},
		{"run (fn u => do fork (fn v => do say 1))", "[1]"}, {"run (fn u => (do fork (fn v => do say 1); do say 2))", "[2, 1]"}, {"run (fn u => (do fork (fn v => do say 1); do fork (fn v => do say 2); do fork (fn v => do say 3)))", "[1, 2, 3]"}, {"run (fn u => (do fork (fn v => do say 1); do yield (); do say 2))", "[1, 2]"}, {"run (fn u => thread 1 3)", "[13, 12, 11]"},
		{"run (fn u => (do fork (fn v => do say 1); do fork (fn v => do say 2); do yield (); do say 3; do fork (fn v => do say 4); do yield (); do say 5))", "[1, 2, 3, 4, 5]"}, {"run (fn u => (do fork (fn v => (do fork (fn w => do say 1); do say 2; do yield (); do say 3)); do say 4; do yield (); do say 5))", "[4, 2, 5, 1, 3]"},
		{"run (fn u => (do fork (fn v => thread 1 3); do fork (fn v => thread 2 1); do fork (fn v => thread 3 2)))", "[13, 21, 32, 12, 31, 11]"}, {"run (fn u => (do fork (fn v => thread 1 2); thread 2 3; do say 0))", "[23, 12, 22, 11, 21, 0]"}, {"run (fn u => (do fork (fn v => do yield ()); do fork (fn v => do say 1); do yield (); do say 2))", "[1, 2]"},
		{"let rec spawn n = if n < 1 then () else (do fork (fn v => (do say n; do yield (); do say (0 - n))); spawn (n - 1)) in run (fn u => (spawn 4; do yield (); do say 9))", "[4, 3, 2, 1, 9, -4, -3, -2, -1]"}, {"let rec tree n = (do say n; if n < 4 then (do fork (fn v => tree (n * 2)); do fork (fn v => tree (n * 2 + 1))) else ()) in run (fn u => tree 1)", "[1, 2, 3, 4, 5, 6, 7]"},
		{"run (fn u => handle (do say 1; do fork (fn v => do say 2); do yield (); do say 3) with { return x => x | say n k => (do say (n * 100); k ()) })", "[100, 2, 300]"}, {"run (fn u => case run (fn v => (do fork (fn w => do say 1); do yield (); do say 2)) of [] => () | x :: l => do say (x + 5) end)", "[6]"}, {"run (fn u => thread 1 (1 + (do say 0; do yield (); 1)))", "[0, 12, 11]"},
	})
	checkNotes(t, "sched", [][2]string{
		{"run (fn u => (do note 1; do fork (fn v => (do say 2; do yield (); do say 3)); do note 4; do yield (); do say (do note 5); do note 6; ()))", "([2, 5, 3], [1, 4, 5, 6])"},
	})
}

func TestCatch(t *testing.T) {
	checkValues(t, prelude.Text("catch"), [][2]string{
		{"catch (fn u => 1 + do fail 2)", "[]"}, {"catch (fn u => 1)", "[1]"}, {"catch (fn u => ~1)", "[-1]"}, {"catch (fn u => do fail 1)", "[]"}, {"catch (fn u => (do fail 1; 2))", "[]"}, {"catch (fn u => if 1 < 2 then 3 else do fail 4)", "[3]"}, {"catch (fn u => if 2 < 1 then 3 else do fail 4)", "[]"}, {"catch (fn u => 9223372036854775807)", "[9223372036854775807]"},
		{"catch (fn u => case catch (fn v => do fail 1) of [] => 5 | x :: l => x end)", "[5]"}, {"catch (fn u => case catch (fn v => 1) of [] => 5 | x :: l => do fail x end)", "[]"}, {"catch (fn u => handle do fail 1 + 1 with { return x => x | fail n k => k 10 })", "[11]"}, {"catch (fn u => retry 1 (fn v => do fail 4))", "[5]"},
		{"let rec f n = if n < 1 then do fail 0 else 1 + f (n - 1) in catch (fn u => f 100)", "[]"}, {"let rec f n = if n < 1 then 0 else 1 + f (n - 1) in catch (fn u => f 100)", "[100]"},
	})
	checkNotes(t, "catch", [][2]string{
		{"catch (fn u => (do note 1; do fail 2; do note 3))", "([], [1])"}, {"catch (fn u => do note 1 + do note 2)", "([3], [1, 2])"},
	})
}

func TestRetry(t *testing.T) {
	checkValues(t, prelude.Text("catch"), [][2]string{
		{"retry 2 (fn u => do fail 10 + do fail 20)", "32"}, {"retry 1 (fn u => do fail 10 + do fail 20)", "20"}, {"retry 0 (fn u => do fail 10 + do fail 20)", "10"}, {"retry ~1 (fn u => do fail 10 + do fail 20)", "10"}, {"retry (0 - 9223372036854775807 - 1) (fn u => do fail 10)", "10"}, {"retry 3 (fn u => do fail 10 + do fail 20)", "32"},
		{"retry 0 (fn u => 5)", "5"}, {"retry 7 (fn u => 5)", "5"}, {"retry ~7 (fn u => 5)", "5"}, {"retry 9223372036854775807 (fn u => do fail 1)", "2"}, {"retry 1 (fn u => do fail 9223372036854775807)", "-9223372036854775808"}, {"retry 1 (fn u => do fail ~1)", "0"}, {"retry 2 (fn u => do fail (do fail 10))", "12"}, {"retry 1 (fn u => do fail (do fail 10))", "11"},
		{"retry 5 (fn u => let rec f n = if n < 5 then f (do fail n) else n * 100 in f 0)", "500"}, {"retry 4 (fn u => let rec f n = if n < 5 then f (do fail n) else n * 100 in f 0)", "4"}, {"retry 2 (fn u => handle do fail 1 + do fail 2 with { return x => do fail x | fail n k => k (n * 10) })", "31"},
		{"retry 1 (fn u => retry 1 (fn v => do fail 1 + do fail 2) + do fail 50)", "53"}, {"retry 1 (fn u => case catch (fn v => do fail 1) of [] => do fail 7 | x :: l => x end)", "8"},
	})
	checkNotes(t, "catch", [][2]string{
		{"retry 1 (fn u => (do note 1; do note (do fail 2); do fail 4; do note 5))", "(4, [1, 3])"}, {"retry 2 (fn u => (do note 1; do note (do fail 2); do fail 4; do note 5))", "(5, [1, 3, 5])"}, {"retry 0 (fn u => (do note 1; do note (do fail 2)))", "(2, [1])"},
	})
}
