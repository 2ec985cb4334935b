package prelude_test

import (
	"fmt"
	"slices"
	"strings"
	"testing"

	"effectus/api"
	"effectus/effectus"
	"effectus/prelude"
)

// row is a list as it is shown, of so many numbers, each so much more than the one ahead.
func row(from, step, many int) string {
	list := make([]int, many)
	for i := range list {
		list[i] = from + i*step
	}
	return shown(list)
}

// flips is a list of so many that are true, and one behind them.
func flips(trues int, last bool) string {
	return shown(append(slices.Repeat([]bool{true}, trues), last))
}

// greatest has mains whose expressions do as many operations as may be, with few calls that wait and with many.
func greatest() map[string][][2]string {
	return map[string][][2]string{
		"state": {
			{"let rec f n = if n < 1 then 0 else (do put (do get () + n); f (n - 1)) in state 5 (fn u => f 150)", "(0, 11330)"}, {"let rec f n = if n < 1 then 0 else (do put n; do get () + f (n - 1)) in state 5 (fn u => f 150)", "(11325, 1)"},
			{"let rec f n = if n < 1 then 0 else do get () + f (n - 1) in state 5 (fn u => f 300)", "(1500, 5)"}, {"let rec f n = if n < 1 then 0 else (let m = f (n - 1) in do put m; m + 1) in state 5 (fn u => f 300)", "(300, 299)"},
		},
		"choose": {
			{"let rec f n = if n < 1 then 0 else if do flip () then f (n - 1) else n in all (fn u => f 300)", row(0, 1, 301)}, {"let rec f n = if n < 1 then 0 else if do flip () then n else f (n - 1) in all (fn u => f 300)", row(300, -1, 301)},
			{"let rec f n = if n < 1 then 0 else if do flip () then 2 + f (n - 1) else n in all (fn u => f 300)", row(600, -1, 301)}, {"let rec f n = if n < 1 then 0 else if do flip () then n else 2 + f (n - 1) in all (fn u => f 300)", row(300, 1, 301)},
			{"let rec f n = if n < 1 then 0 else 2 * f (n - 1) + (if do flip () then 0 else 1) in all (fn u => f 8)", row(0, 1, 256)}, {"let rec f n = if n < 1 then true else if do flip () then f (n - 1) else false in first (fn u => f 300)", flips(299, true)},
			{"let rec f n = if n < 1 then false else if do flip () then f (n - 1) else n == 250 in first (fn u => f 300)", flips(50, false)}, {"let rec f n = if n < 1 then false else if do flip () then f (n - 1) else n == 300 in first (fn u => f 300)", flips(0, false)},
			{"let rec f n = if n < 1 then false else if do flip () then f (n - 1) else false in first (fn u => f 300)", "[]"}, {"let rec f n = if n < 1 then false else if do flip () then false else f (n - 1) in first (fn u => f 300)", "[]"},
		},
		"gen": {
			{"let rec f n = if n < 1 then 0 else (do emit n; f (n - 1)) in emitted (fn u => f 300)", row(300, -1, 300)}, {"let rec f n = if n < 1 then 0 else (do emit n; 1 + f (n - 1)) in emitted (fn u => f 300)", row(300, -1, 300)}, {"let rec f n = if n < 1 then 0 else (f (n - 1); do emit n; 0) in emitted (fn u => f 300)", row(1, 1, 300)},
			{"let rec f n = (do emit n; f (n - 1)) in take 300 (fn u => f 300)", row(300, -1, 300)}, {"let rec f n = (do emit n; 1 + f (n + 1)) in take 300 (fn u => f 1)", row(1, 1, 300)}, {"let rec f n = if n < 1 then 0 else (do emit n; 1 + f (n - 1)) in take 301 (fn u => f 300)", row(300, -1, 300)},
		},
		"sched": {
			{"let rec f n = if n < 1 then () else (do yield (); f (n - 1)) in run (fn u => (f 299; do say 1))", "[1]"}, {"let rec f n = if n < 1 then 0 else (do yield (); do say n; 1 + f (n - 1)) in run (fn u => (f 150; ()))", row(150, -1, 150)},
			{"let rec f n = if n < 1 then () else (do fork (fn v => do say n); f (n - 1)) in run (fn u => f 150)", row(150, -1, 150)}, {"let rec f n = if n < 1 then () else (do say n; do fork (fn v => f (n - 1))) in run (fn u => f 150)", row(150, -1, 150)},
			{"let rec f n = if n < 1 then () else (do fork (fn v => (do yield (); do say n)); f (n - 1)) in run (fn u => f 100)", row(100, -1, 100)}, {"let rec g n = if n < 1 then () else (do yield (); g (n - 1)) in let rec f n = if n < 1 then () else (do fork (fn v => (g n; do say n)); f (n - 1)) in run (fn u => f 21)", row(1, 1, 21)},
		},
		"catch": {
			{"let rec f n = if n < 1 then 0 else f (do fail (n - 2)) in retry 300 (fn u => f 300)", "0"}, {"let rec f n = if n < 1 then 0 else do fail 1 + f (n - 1) in retry 300 (fn u => f 300)", "600"}, {"let rec f n = if n < 1 then 0 else do fail n + f (n - 1) in retry 299 (fn u => f 300)", "1"}, {"let rec f n = if n < 1 then do fail 1 else 1 + f (n - 1) in catch (fn u => f 300)", "[]"},
		},
	}
}

// TestMostDone: expressions that do as many operations as may be come to their values in time.
func TestMostDone(t *testing.T) {
	for name, table := range greatest() {
		checkValues(t, prelude.Text(name), table)
	}
}

// TestManyRounds: what goes round takes no more calls the more often it does so, and no more cells than what is gathered.
func TestManyRounds(t *testing.T) {
	const rounds, few, cell = 2 * api.MaxCalls, 200, 3
	for _, row := range []struct {
		name, main, want string
		cells            int
	}{
		{"state", "let rec f n = if n < 1 then 0 else (do put (do get () + 1); f (n - 1)) in state 0 (fn u => f N)", "(0, N)", few},
		{"choose", "let rec f n = if n < 1 then true else if do flip () then false else f (n - 1) in case first (fn u => f N) of [] => 0 | x :: l => N end", "N", few + 2*cell*rounds}, {"choose", "let rec f n = if n < 1 then 1 else if do flip () then n else f (n - 1) in case all (fn u => f N) of [] => 0 | x :: l => x end", "N", few + 2*cell*rounds},
		{"gen", "let rec f n = if n < 1 then 0 else (do emit n; f (n - 1)) in case emitted (fn u => f N) of [] => 0 | x :: l => x end", "N", few + 2*cell*rounds}, {"gen", "let rec f n = (do emit n; f (n - 1)) in case take N (fn u => f N) of [] => 0 | x :: l => x end", "N", few + 2*cell*rounds},
		{"sched", "let rec f n = if n < 1 then do say N else (do yield (); f (n - 1)) in run (fn u => (do fork (fn v => f N); f N))", "[N, N]", few}, {"sched", "let rec f n = if n < 1 then do say N else do fork (fn v => f (n - 1)) in run (fn u => f N)", "[N]", few},
		{"catch", "let rec f n = if N < n then n - 1 else f (do fail n) in retry N (fn u => f 1)", "N", few},
	} {
		n := fmt.Sprint(rounds)
		o, fault := effectus.Run(prelude.Text(row.name)+"main = "+strings.ReplaceAll(row.main, "N", n), row.cells, api.MaxFuel)
		if fault != (api.Fault{}) || o.Kind != api.Done || o.Value != strings.ReplaceAll(row.want, "N", n) {
			t.Errorf("%s: %v %v", row.main, o, fault)
		}
	}
}
