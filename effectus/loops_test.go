package effectus_test

import (
	"fmt"
	"strings"
	"testing"

	"effectus/api"
	"effectus/effectus"
	"effectus/machine"
)

// TestLoop is the chapter's own loop.
func TestLoop(t *testing.T) {
	text := "op once tick : unit => int\ndef rec loop i = if i < 1 then 0 else (do tick (); loop (i - 1))\nmain = handle loop 2000 with { return x => x | tick u k => k 1 }\n"
	o, fault := effectus.Run(text, 2000, api.MaxFuel)
	if fault != (api.Fault{}) || o.Kind != api.Done || o.Value != "0" {
		t.Errorf("%v %v", o, fault)
	}
}

// tickLoops are clauses by which a loop goes on, and main is what it has come to in the end.
var tickLoops = []string{
	"k 1", "(1; k 1)", "(let v = 1 in k v)", "(if true then k 1 else k 2)", "(case [1, 2] of [] => k 1 | x :: l => k x end)", "(let rec f n = if n < 1 then k 1 else f (n - 1) in f 3)", "k (do tock 1)", "(do tock 1; k 1)", "(case [do tock 1] of [] => 0 | x :: l => k x end)",
	"(fn w => k w) 1", "go k", "later k ()", "(let j = k in j 1)", "(fst (k, 1)) 1", "(case [k] of [] => 0 | j :: l => j 1 end)", "same k 1", "same (same k) (same 1)", "(k, go) ; k 1", "(map same [k]; k 1)",
	"handle 1 with { return x => k x }", "handle do tock 1 with { return x => k x | tock v j => j 1 }", "handle 1 + do tock 3 with { return x => x | tock v j => k v }", "shallow 1 + do tock 3 with { return x => x | tock v j => k v }",
	"(let r = (handle do tick () with { return x => x | tick u j => j 5 }) in k r)", "handle (handle do tock 1 with { return x => x | tick u j => 7 }) with { return x => go k | tock v j => j 1 }",
}

// loops are programs in which something goes round N times, resumes and forgets.
func loops() []string {
	const head = "op once tick : unit => int op many tock : int => int op many flip : unit => bool def same x = x def go k = k 1 def later k = fn u => k 1 def rec map f l = case l of [] => [] | x :: r => f x :: map f r end "
	const loop = "def rec loop i = if i < 1 then 0 else (do tick (); loop (i - 1)) "
	all := []string{
		loop + "main = (handle loop N with { return x => fn s => s | tick u k => fn s => k s (s + 1) }) 0",
		loop + "main = fst ((handle loop N with { return x => fn s => (s, x) | tick u k => fn s => (let v = s + 1 in k v v) }) 0)",
		loop + "main = 1 + (2 + fst (handle 1 + (1 + loop N) with { return x => (x, 1) | tick u k => k 1 }))",
		loop + "main = handle (handle loop N with { return x => x | tock v k => k 1 }) with { return x => x | tick u k => k 1 }",
		loop + "main = handle 1 + (handle loop N with { return x => x | tock v k => k 1 }) with { return x => x | tick u k => k 1 }",
		loop + "def rec serve n f = shallow f () with { return x => n | tick u k => serve (n + 1) (fn v => k n) } main = serve 0 (fn u => loop N)",
		loop + "def rec serve k = shallow k 1 with { return x => x | tick u j => serve j } main = serve (fn u => loop N)",
		loop + "def rec drive k = case (shallow k 1 with { return x => [] | tick u j => [j] }) of [] => 7 | j :: l => drive j end main = drive (fn u => loop N)",
		"def rec append a b = case a of [] => b | x :: r => x :: append r b end def rec loop i = if i < 1 then 0 else (do tock i; loop (i - 1)) " +
			"def rec turns q = case q of [] => 0 | t :: r => (case (shallow t 1 with { return x => [] | tock v k => [k] }) of [] => turns r | k :: l => turns (append r [k]) end) end main = turns [fn u => loop N, fn u => loop N, fn u => 1 + loop N]",
		"def rec loop i = if i < 1 then 0 else handle 1 with { return x => loop (i - 1) } main = loop N",
		"def rec loop i = if i < 1 then 0 else handle do tick () with { return x => loop (i - 1) | tick u k => k 1 } main = loop N",
		"def rec loop i = if i < 1 then 0 else handle 2 * do tick () with { return x => x | tick u k => loop (i - 1) } main = 1 + loop N",
		"def rec loop i = if i < 1 then 0 else shallow 2 * do tick () with { return x => x | tick u k => loop (i - 1) } main = 1 + loop N",
		"def rec loop i = if i < 1 then 0 else ((handle do tick () with { return x => x | tick u k => k 1 }); loop (i - 1)) main = loop N",
		"def rec loop i = if i < 1 then 0 else (let l = [i, i, i] in (case l of [] => 1 | x :: r => x + do tick () end); loop (i - 1)) main = handle loop N with { return x => x | tick u k => k 1 }",
		"def rec loop i = if i < 1 then 0 else (if do flip () then loop (i - 1) else 0) main = handle loop N with { return x => x | flip u k => (k false; k true) }",
		"def rec loop i = if i < 1 then 0 else (case map (fn x => x + do tick ()) [1, 2] of [] => 1 | x :: r => loop (i - 1) end) main = handle loop N with { return x => x | tick u k => k 1 }",
		"def rec loop i = loop (i - 1) def rec f i = if i < 1 then 0 else f (i - 1) main = f N", "def rec f i = fn l => case l of [] => i | x :: r => f (i - x) (if i < 1 then [] else l) end main = f N [1]",
	}
	for _, clause := range tickLoops {
		all = append(all, loop+"main = handle (handle loop N with { return x => x | tick u k => "+clause+" }) with { return x => x | tock v k => k v }")
	}
	for i, text := range all {
		all[i] = head + text
	}
	return all
}

// leastHeap is how many cells a code needs to come to its end.
func leastHeap(t *testing.T, bytes string) int {
	t.Helper()
	low, high := 0, manyCells
	if o := played(t, bytes, high, api.MaxFuel); o.Kind != api.Done {
		return -1
	}
	for low < high {
		middle := (low + high) / 2
		if o := played(t, bytes, middle, api.MaxFuel); o.Kind == api.Memory {
			low = middle + 1
		} else {
			high = middle
		}
	}
	return low
}

// TestLoops: how often a loop goes round makes no difference to its heap and its calls: it goes round more often than there may be calls.
func TestLoops(t *testing.T) {
	for _, text := range loops() {
		few := leastHeap(t, compiled(t, strings.ReplaceAll(text, "N", "20")))
		many := leastHeap(t, compiled(t, strings.ReplaceAll(text, "N", fmt.Sprint(2*api.MaxCalls))))
		if few < 0 || many != few {
			t.Errorf("%s: goes round on %d cells a few times, on %d many times", text, few, many)
		}
		checkDone(t, strings.ReplaceAll(text, "N", fmt.Sprint(2*api.MaxCalls)))
	}
}

// TestLoopReached: what is reached stays the same from round to round, also of a loop without an end.
func TestLoopReached(t *testing.T) {
	for _, text := range loops() {
		bytes := compiled(t, strings.ReplaceAll(text, "N", "1000000"))
		m, fault := machine.Load(bytes, manyCells)
		if fault != (api.Fault{}) {
			t.Fatal(fault)
		}
		most := [2]int{}
		for i := range most {
			for range 2000 {
				m.Go(1)
				most[i] = max(most[i], m.Live())
			}
			m.Go(50000)
		}
		if o := m.Tell(); o.Kind != api.Going && o.Kind != api.Done || most[1] > most[0] {
			t.Errorf("%s: %v, at first %d cells are reached, then %d", text, o, most[0], most[1])
		}
	}
}
