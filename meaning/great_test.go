package meaning_test

import (
	"strings"
	"testing"
	"time"

	"effectus/api"
	"effectus/meaning"
)

// TestMuchFuel: whatever a program does with much fuel, it takes little time: what waits is not gone through again for each
// operation, and names are found at once.
func TestMuchFuel(t *testing.T) {
	loops := someOps + "def rec gets n = if n < 1 then 0 else (do get (); gets (n - 1)) def rec forks n = if n < 1 then 0 else (do fork n; forks (n - 1)) "
	names := strings.Repeat("a ", 140)
	for what, text := range map[string]string{
		"a loop":                          "def rec loop n = loop (n + 1) main = loop 0",
		"calls within one another":        "def rec deep n = 1 + deep (n + 1) main = deep 0",
		"a list that grows":               "def rec more l = more (1 :: l) main = more []",
		"numbers, pairs and lists":        "def rec go l = case l of [] => go [(1, 2)] | p :: r => go ((snd p, fst p + 1) :: r) end main = go []",
		"many names in sight":             "def f b = let rec loop " + names + "= b + loop " + strings.Repeat("b ", 140) + " in loop " + strings.Repeat("b ", 140) + " main = f 1",
		"operations":                      loops + "main = handle forks 1000000 with { return x => x | fork v k => k v }",
		"operations that are added up":    loops + "main = handle forks 1000000 with { return x => x | fork v k => k v + 1 }",
		"operations far inside":           loops + "def rec deep n f = if n < 1 then f () else 1 + deep (n - 1) f main = handle deep 40000 (fn u => forks 1000000) with { return x => x | fork v k => k v }",
		"many handlers around":            loops + "main = handle (handle (gets 20000; forks 1000000) with { return x => x | get u k => handle k 1 with { return x => x | get v j => j 2 } }) with { return x => x | fork v k => k v }",
		"shallow handlers":                loops + "def rec serve n f = shallow f () with { return x => x | fork v k => serve (n + 1) (fn u => k n) } main = serve 0 (fn u => forks 1000000)",
		"shallow handlers in one another": loops + "def rec serve n f = shallow 1 + f () with { return x => x | fork v k => serve (n + 1) (fn u => k n) } main = serve 0 (fn u => forks 1000000)",
		"what waits is doubled": "op many out : unit => (unit -{out}-> int) def rec go f = shallow f () with { return x => x | out u k => go (fn u => k (fn v => k (fn w => (do out ()) ()))) } " +
			"main = go (fn u => 1 + (do out ()) ())",
	} {
		before := time.Now()
		outcome, fault := meaning.Run(text, api.MaxFuel)
		if outcome != (api.Outcome{Kind: api.Going, Steps: api.MaxFuel}) || fault != (api.Fault{}) {
			t.Errorf("%s: %v %v", what, outcome, fault)
		}
		if took := time.Since(before); took > 20*time.Second {
			t.Errorf("%s: %v", what, took)
		}
	}
}

// TestGreatEnds: what waits is all there when it is gone back through.
func TestGreatEnds(t *testing.T) {
	for _, row := range [][2]string{
		{"def rec sum n = if n < 1 then 0 else n + sum (n - 1) main = sum 80000", "3200040000"},
		{"def rec go n s = if n < 1 then s else go (n - 1) (s + n) main = go 60000 0", "1800030000"},
		{someOps + "def rec sum n = if n < 1 then 0 else do ask n + sum (n - 1) main = handle sum 40000 with { return x => x | ask v k => k (v * 2) }", "1600040000"},
		{someOps + "def rec sum n = if n < 1 then 0 else do ask n + sum (n - 1) main = handle sum 40000 with { return x => x | ask v k => k v + 1 }", "800060000"},
		{someOps + "def rec deep n = if n < 1 then do ask 5 else 1 + deep (n - 1) main = handle (deep 30000 + deep 30000) with { return x => x | ask v k => k v }", "60010"},
		{someOps + "def rec deep n = if n < 1 then do fork 5 else 1 + deep (n - 1) main = handle deep 30000 with { return x => x | fork v k => k v + k 6 + k 7 }", "90018"},
		// handlers that were put around one another one by one
		{someOps + "def rec gets n = if n < 1 then do ask 1 else (do get (); gets (n - 1)) main = handle (handle gets 20000 with { return x => x | get u k => (handle k 1 with { return x => x + 1 | get v j => 0 }) }) " +
			"with { return x => x | ask v k => k v }", "20001"},
		{"op many out : unit => (unit -{out}-> int) def rec go n f = shallow f () with { return x => x | out u k => go (n - 1) (if n < 1 then fn u => k (fn v => 1) else fn u => k (fn v => k (fn w => (do out ()) ()))) } " +
			"main = go 16 (fn u => 1 + (do out ()) ())", "65537"},
	} {
		if outcome := run(t, row[0], api.MaxFuel); outcome.Kind != api.Done || outcome.Value != row[1] {
			t.Errorf("%s: %v, want %s", row[0], outcome, row[1])
		}
	}
}

// TestManyOperations: as many as a text has room for, of which the nearest handlers have others.
func TestManyOperations(t *testing.T) {
	letters := "abcdefghijklmnopqrstuvwxyzABCDEFGHIJKLMNOPQRSTUVWXYZ_"
	var names []string
	for _, first := range []string{"", "a", "b"} {
		for _, last := range letters {
			names = append(names, first+string(last))
		}
	}
	declared := ""
	for i := range 144 {
		declared += "op once " + names[i] + ":int=>int "
	}
	for _, some := range [][3]int{{0, 1, 2}, {0, 63, 64}, {143, 127, 128}, {64, 128, 0}, {129, 1, 65}} {
		a, b, c := names[some[0]], names[some[1]], names[some[2]]
		text := declared + "main=handle handle do " + a + " 1+do " + b + " 1+do " + c + " 1 with{return x=>x|" + a + " v k=>k 5}with{return x=>x|" + b + " v k=>k 70|" + c + " v k=>k 900}"
		if outcome := run(t, text, plenty); outcome.Value != "975" {
			t.Errorf("%v: %v", some, outcome)
		}
	}
}
