package trees_test

import (
	"reflect"
	"strings"
	"testing"

	"effectus/api"
	"effectus/core"
	"effectus/infer"
	"effectus/trees"
)

// checkFault: the fault is that of Core, and there is no term.
func checkFault(t *testing.T, text string) {
	t.Helper()
	_, want := core.Core(text)
	if want.Kind == api.OK {
		t.Errorf("%.60s: has a term", text)
	}
	if pure, fault := trees.Tree(text); fault != want || !reflect.DeepEqual(pure, api.Term{}) {
		t.Errorf("%.60s: %v %v, want %v", text, pure, fault, want)
	}
}

func TestFaults(t *testing.T) {
	for _, text := range []string{
		"", "main", "main = ", "main = 1 1 =", "main = $", "main = x", "main = 1 2", "main = (1", "main = 1 + true", "main = do get ()", "\xff", "main = 1 \x00",
		"def f x = x def f x = x main = 1", "def f x = x x main = 1", "def f x = f x main = 1", "main = let x = x in x", "op once a : int => int main = handle 1 with { return x => x | b v k => 1 }",
		"main = " + strings.Repeat("(", api.MaxDepth) + "1" + strings.Repeat(")", api.MaxDepth), strings.Repeat(" ", api.MaxText+1), "def f " + strings.Repeat("a ", api.MaxType) + "= 1 main = 1",
	} {
		checkFault(t, text)
	}
	for text, want := range map[string]api.Fault{
		"main = y": {Kind: api.ErrName, At: 7}, "main = 1 + ()": {Kind: api.ErrType, At: 11}, "main = 1 +": {Kind: api.ErrSyntax, At: 10}, "main = 1 $": {Kind: api.ErrByte, At: 9}, "main =": {Kind: api.ErrSyntax, At: 6},
		"op once get : unit => int main = do get ()": {Kind: api.ErrRow, At: 33}, strings.Repeat("$", api.MaxText+1): {Kind: api.ErrLong},
	} {
		if pure, fault := trees.Tree(text); fault != want || !reflect.DeepEqual(pure, api.Term{}) {
			t.Errorf("%.60s: %v %v, want %v", text, pure, fault, want)
		}
	}
}

// TestBroken: of a program each beginning, and each part left out, has Core's fault or a pure term.
func TestBroken(t *testing.T) {
	text := someOps + "def rec f x y = if x < 1 then do ask y else f (x - 1) (y * 2) def g x = x main = handle (f 2 (g 3), [do flip ()]) with { return p => case snd p of [] => 0 | a :: l => fst p end | ask v k => k (g v) | flip u k => k true; k false }"
	checkTree(t, text, 1000)
	for i := range len(text) {
		for _, broken := range []string{text[:i], text[:i] + text[i+1:], text[:i] + " " + text[i:], text[:i] + "1" + text[i:]} {
			if _, fault := infer.Infer(broken); fault.Kind != api.OK {
				checkFault(t, broken)
			} else {
				checkTree(t, broken, 1000)
			}
		}
	}
}
