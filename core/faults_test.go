package core_test

import (
	"reflect"
	"strings"
	"testing"

	"effectus/api"
	"effectus/core"
	"effectus/infer"
)

// checkFault: the fault is that of Infer, and there is no term.
func checkFault(t *testing.T, text string) {
	t.Helper()
	_, want := infer.Infer(text)
	if want.Kind == api.OK {
		t.Errorf("%.60s: has types", text)
	}
	if term, fault := core.Core(text); fault != want || !reflect.DeepEqual(term, api.Term{}) {
		t.Errorf("%.60s: %v %v, want %v", text, term, fault, want)
	}
}

func TestFaults(t *testing.T) {
	for _, text := range []string{
		"", "main", "main = ", "main = 1 1 =", "main = $", "main = 007", "main = x", "main = 1 2", "main = (1", "main = 1 + true", "main = do get ()", "\xff", "main = 1 \x00",
		"op once get : unit => int main = do get ()", "op many fail : unit => int main = handle do fail () with { return x => do fail () | fail u k => 1 }",
		"op once a : int => int main = handle 1 with { return x => x | b v k => 1 }", "op once a : int => int main = handle 1 with { return x => x | a v k => 1 | a v k => 1 }",
		"def f x = x def f x = x main = 1", "def f x = x x main = 1", "def f x = g x def g x = x main = 1", "def f x = f x main = 1", "op once a : int => int op once a : int => int main = 1", "main = let x = x in x",
		"main = case [] of [] => x | x :: r => x end", "main = handle x with { return x => x }", "main = (let x = 1 in x) + x",
		"main = " + strings.Repeat("(", api.MaxDepth) + "1" + strings.Repeat(")", api.MaxDepth), strings.Repeat(" ", api.MaxText+1), "main = 1" + strings.Repeat(" ", api.MaxText),
		"def f " + strings.Repeat("a ", api.MaxType) + "= 1 main = 1",
	} {
		checkFault(t, text)
	}
	for text, want := range map[string]api.Fault{
		"main = y": {Kind: api.ErrName, At: 7}, "main = 1 + ()": {Kind: api.ErrType, At: 11}, "main = 1 +": {Kind: api.ErrSyntax, At: 10},
		"op once get : unit => int main = do get ()": {Kind: api.ErrRow, At: 33}, strings.Repeat("$", api.MaxText+1): {Kind: api.ErrLong},
	} {
		if term, fault := core.Core(text); fault != want || !reflect.DeepEqual(term, api.Term{}) {
			t.Errorf("%.60s: %v %v, want %v", text, term, fault, want)
		}
	}
}

// TestBroken: of a program each beginning, and each part left out, has Infer's fault or a term.
func TestBroken(t *testing.T) {
	text := someOps + "def rec f x y = if x < 1 then do ask y else f (x - 1) (y * 2) main = handle (f 2 3, [do flip ()]) with { return p => case snd p of [] => 0 | a :: l => fst p end | ask v k => k (v + 1) | flip u k => k true; k false }"
	made(t, text)
	for i := range len(text) {
		for _, broken := range []string{text[:i], text[:i] + text[i+1:], text[:i] + " " + text[i:], text[:i] + "1" + text[i:]} {
			if _, fault := infer.Infer(broken); fault.Kind != api.OK {
				checkFault(t, broken)
			} else {
				checkTerm(t, broken)
			}
		}
	}
}
