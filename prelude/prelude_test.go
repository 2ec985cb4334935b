package prelude_test

import (
	"slices"
	"strings"
	"testing"

	"effectus/api"
	"effectus/infer"
	"effectus/prelude"
	"effectus/syntax"
)

// names has of each text the operations that it declares, as Print writes them, and the types of what it defines.
var names = map[string]struct {
	ops  []string
	defs []api.Typing
}{
	"state": {
		[]string{"op once get : unit => int", "op once put : int => unit"},
		[]api.Typing{{Name: "state", Type: "int -{| r1}-> (unit -{get, put | r2}-> a) -{| r2}-> a * int"}},
	},
	"choose": {
		[]string{"op many flip : unit => bool"},
		[]api.Typing{{Name: "all", Type: "(unit -{flip | r1}-> a) -{| r1}-> a list"}, {Name: "first", Type: "(unit -{flip | r1}-> bool) -{| r1}-> bool list"}},
	},
	"gen": {
		[]string{"op many emit : int => unit"},
		[]api.Typing{{Name: "emitted", Type: "(unit -{emit | r1}-> a) -{| r1}-> int list"}, {Name: "take", Type: "int -{| r1}-> (unit -{emit | r2}-> a) -{| r2}-> int list"}},
	},
	"sched": {
		[]string{"op many fork : unit - { fork , say , yield } -> unit => unit", "op many yield : unit => unit", "op many say : int => unit"},
		[]api.Typing{{Name: "run", Type: "(unit -{fork, say, yield | r1}-> unit) -{| r1}-> int list"}},
	},
	"catch": {
		[]string{"op many fail : int => int"},
		[]api.Typing{{Name: "catch", Type: "(unit -{fail | r1}-> int) -{| r1}-> int list"}, {Name: "retry", Type: "int -{| r1}-> (unit -{fail | r2}-> int) -{| r2}-> int"}},
	},
}

// TestNames: there are five texts, none of them too long, and no others.
func TestNames(t *testing.T) {
	for name := range names {
		if text := prelude.Text(name); text == "" || len(text) > 1500 {
			t.Errorf("%s: %d bytes", name, len(text))
		}
		for _, other := range []string{name + " ", " " + name, name + "\n", name + "\x00", name[1:], name[:len(name)-1], strings.ToUpper(name), name + name} {
			if text := prelude.Text(other); text != "" {
				t.Errorf("%q: %s", other, text)
			}
		}
	}
	for _, other := range []string{"", "none", "all", "first", "emitted", "take", "run", "retry", "get", "p_", "\xff", strings.Repeat("state", 100000)} {
		if text := prelude.Text(other); text != "" {
			t.Errorf("%.20q: %s", other, text)
		}
	}
}

// own is whether a name is one of a text's own, of which a caller knows nothing.
func own(name string) bool { return strings.HasPrefix(name, "p_") }

// TestOps: each text declares the operations that it is to declare; others begin with p_.
func TestOps(t *testing.T) {
	for name, want := range names {
		tree, fault := syntax.Parse(prelude.Text(name) + "main = 0")
		if fault != (api.Fault{}) {
			t.Errorf("%s: %v", name, fault)
			continue
		}
		var got []string
		for _, op := range tree.Kids[:tree.N] {
			if !own(op.Name) {
				program := api.Node{Kind: api.Prog, N: 1, Kids: []api.Node{op, {Kind: api.EInt}}}
				got = append(got, strings.TrimSuffix(syntax.Print(program), " main = 0"))
			}
		}
		if !slices.Equal(got, want.ops) {
			t.Errorf("%s: %q", name, got)
		}
	}
}

// TestTypes: each text defines what it is to define, as general as that can be; all else begins with p_.
func TestTypes(t *testing.T) {
	for name, want := range names {
		types, fault := infer.Infer(prelude.Text(name) + "main = 0")
		got := slices.DeleteFunc(types, func(t api.Typing) bool { return own(t.Name) })
		if fault != (api.Fault{}) || !slices.Equal(got, append(want.defs, api.Typing{Name: "main", Type: "int"})) {
			t.Errorf("%s: %v %v", name, got, fault)
		}
	}
}

// TestCallers: a caller's defs, and remarks, can stand right behind a text, and operations of his ahead of it; his names may be those that a text has within.
func TestCallers(t *testing.T) {
	const ops = "op once l:int=>int op many reverse:unit=>int "
	for name := range names {
		text := prelude.Text(name)
		for program, want := range map[string]string{
			text + "main=1": "1", text + "def n x=x main=n 1": "1", text + "# a remark\ndef rec f k=if k<1 then 2 else f(k-1) def l x=f x main=l 5": "2", text + "\n\tmain = 3": "3", text + "main=let u=1 in u": "1",
			ops + text + "def append x=do l x main=handle append 1 with{return x=>x|l v k=>k(v+1)}": "2", ops + text + "def f u=do reverse() def g l=f l main=handle g()+g()with{return x=>x|reverse u k=>k 4}": "8",
		} {
			if got := comesTo(t, program); got != want {
				t.Errorf("%s: %s, want %s", program, got, want)
			}
		}
	}
}

// TestWrong: what is not as the types say is no program.
func TestWrong(t *testing.T) {
	for _, row := range []struct {
		name, main string
		kind       api.Errno
		at         string
	}{
		{"state", "do get ()", api.ErrRow, "do get ()"}, {"state", "state true (fn u => 1)", api.ErrType, "true (fn u => 1)"}, {"state", "state 1 2", api.ErrType, "2"}, {"state", "state 1 (fn u => do put ())", api.ErrType, "())"}, {"state", "state 1 (fn u => do flip ())", api.ErrName, "do flip ())"}, {"state", "state 1 (fn u => u + 1)", api.ErrType, "fn u => u + 1)"},
		{"choose", "do flip ()", api.ErrRow, "do flip ()"}, {"choose", "first (fn u => 1)", api.ErrType, "fn u => 1)"}, {"choose", "all 1", api.ErrType, "1"}, {"choose", "all (fn u => do flip 1)", api.ErrType, "1)"}, {"choose", "(all (fn u => 1); do flip ())", api.ErrRow, "do flip ())"}, {"choose", "if all (fn u => true) then 1 else 2", api.ErrType, "all (fn u => true) then 1 else 2"},
		{"gen", "do emit 1", api.ErrRow, "do emit 1"}, {"gen", "take (fn u => do emit 1) 1", api.ErrType, "fn u => do emit 1) 1"}, {"gen", "emitted (do emit 1)", api.ErrRow, "do emit 1)"}, {"gen", "emitted ()", api.ErrType, "()"}, {"gen", "emitted (fn u => do emit ())", api.ErrType, "())"},
		{"sched", "do yield ()", api.ErrRow, "do yield ()"}, {"sched", "run (fn u => 1)", api.ErrType, "fn u => 1)"}, {"sched", "run (fn u => do fork ())", api.ErrType, "())"}, {"sched", "run (fn u => do fork (fn v => 1))", api.ErrType, "fn v => 1))"}, {"sched", "run (fn u => do fork (fn v => do p_x ()))", api.ErrName, "do p_x ()))"},
		{"catch", "do fail 1", api.ErrRow, "do fail 1"}, {"catch", "catch (fn u => true)", api.ErrType, "fn u => true)"}, {"catch", "retry 1 (fn u => ())", api.ErrType, "fn u => ())"}, {"catch", "retry (fn u => 1) 1", api.ErrType, "fn u => 1) 1"}, {"catch", "catch (fn u => do fail true)", api.ErrType, "true)"},
	} {
		checkFault(t, row.name, row.main, row.kind, row.at)
	}
	// A thread that is forked does nothing but what its operation says; the first one may.
	program := "op many note : int => unit " + prelude.Text("sched") + "main = handle run (fn u => do fork (fn v => do note 1)) with { return x => x | note n k => k () }"
	if _, fault := infer.Infer(program); fault.Kind != api.ErrType || !strings.HasPrefix(program[fault.At:], "fn v") {
		t.Errorf("%v", fault)
	}
}

// TestPartly: a function that was given its first argument alone may be given the last one where more is done.
func TestPartly(t *testing.T) {
	const ops = "op many note : int => int "
	for name, row := range map[string][2]string{
		"state": {"let s = state 3 in handle s (fn u => do get () + do note 4) with { return x => x | note n k => k n }", "(7, 3)"},
		"gen":   {"let s = take 1 in handle s (fn u => do emit (do note 4)) with { return x => x | note n k => k n }", "[4]"},
		"catch": {"let s = retry 1 in handle s (fn u => do fail (do note 4)) with { return x => x | note n k => k n }", "5"},
	} {
		checkValues(t, ops+prelude.Text(name), [][2]string{row})
	}
}
