package prelude_test

import (
	"testing"

	"effectus/api"
	"effectus/effectus"
	"effectus/meaning"
	"effectus/prelude"
)

// manyCells is a heap that is great enough for most codes, and is made sooner than the greatest one.
const manyCells = 20000

// codeOf runs a program's code: what has room in a heap does the same in every greater one.
func codeOf(program string) (api.Outcome, api.Fault) {
	o, fault := effectus.Run(program, manyCells, api.MaxFuel)
	if o.Kind == api.Memory {
		return effectus.Run(program, api.MaxHeap, api.MaxFuel)
	}
	return o, fault
}

// comesTo is what a program comes to, as it means and by its code.
func comesTo(t testing.TB, program string) string {
	t.Helper()
	o, fault := meaning.Run(program, api.MaxFuel)
	if fault != (api.Fault{}) || o.Kind != api.Done {
		t.Errorf("%s: %v %v", program, o, fault)
		return ""
	}
	c, fault := codeOf(program)
	if fault != (api.Fault{}) || c.Kind != api.Done || c.Value != o.Value {
		t.Errorf("%s: the code: %v %v, want %v", program, c, fault, o)
	}
	return o.Value
}

// checkValues has of each main, behind a text of the prelude, what it comes to.
func checkValues(t *testing.T, text string, table [][2]string) {
	t.Helper()
	for _, row := range table {
		if got := comesTo(t, text+"main = "+row[0]); got != row[1] {
			t.Errorf("%s: %s, want %s", row[0], got, row[1])
		}
	}
}

// checkNotes has of each expression what it comes to, and what it notes on the way, by an operation that the text of the prelude knows nothing of.
func checkNotes(t *testing.T, name string, table [][2]string) {
	t.Helper()
	for i, row := range table {
		table[i][0] = "handle " + row[0] + " with { return x => (x, []) | note n k => let p = k n in (fst p, n :: snd p) }"
	}
	checkValues(t, "op many note : int => int "+prelude.Text(name), table)
}

// checkFault: a main behind a text of the prelude has a fault, at a place in it.
func checkFault(t *testing.T, name, main string, kind api.Errno, at string) {
	t.Helper()
	program := prelude.Text(name) + "main = " + main
	_, fault := effectus.Compile(program)
	if fault.Kind != kind || len(program)-len(at) != fault.At {
		t.Errorf("%s: %v at %s, want %d at %s", main, fault, program[fault.At:], kind, at)
	}
}
