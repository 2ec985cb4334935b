package emit_test

import (
	"reflect"
	"strings"
	"testing"

	"effectus/api"
	"effectus/core"
	"effectus/emit"
)

// checkFault: the fault is that of Core, and there is no code.
func checkFault(t *testing.T, text string) {
	t.Helper()
	_, want := core.Core(text)
	if want.Kind == api.OK {
		t.Errorf("%.60s: has a term", text)
	}
	if c, fault := emit.Emit(text); fault != want || !reflect.DeepEqual(c, api.Code{}) {
		t.Errorf("%.60s: %v %v, want %v", text, c, fault, want)
	}
}

func TestFaults(t *testing.T) {
	for text, want := range map[string]api.Fault{
		"": {Kind: api.ErrSyntax}, "main = y": {Kind: api.ErrName, At: 7}, "main = 1 + ()": {Kind: api.ErrType, At: 11}, "main = 1 +": {Kind: api.ErrSyntax, At: 10}, "main = 1 $": {Kind: api.ErrByte, At: 9}, "main = 007": {Kind: api.ErrToken, At: 7}, "\xff": {Kind: api.ErrByte},
		"op once get : unit => int main = do get ()": {Kind: api.ErrRow, At: 33}, strings.Repeat(" ", api.MaxText+1): {Kind: api.ErrLong}, "def f x = x def f x = x main = 1": {Kind: api.ErrTwice, At: 12}, "def f x = x x main = 1": {Kind: api.ErrType, At: 12},
		"def f " + strings.Repeat("a ", api.MaxType) + "= 1 main = 1": {Kind: api.ErrBig}, "main = " + strings.Repeat("(", api.MaxDepth) + "1" + strings.Repeat(")", api.MaxDepth): {Kind: api.ErrDeep, At: 7 + api.MaxDepth},
	} {
		if c, fault := emit.Emit(text); fault != want || !reflect.DeepEqual(c, api.Code{}) {
			t.Errorf("%.60s: %v %v, want %v", text, c, fault, want)
		}
		checkFault(t, text)
	}
}

// TestBroken: of a program each beginning, and each part left out, has Core's fault or a code.
func TestBroken(t *testing.T) {
	text := "op once ask : int => int op many flip : unit => bool def rec f x y = if x < 1 then do ask y else f (x - 1) (y * 2) def g x = x main = handle (f 2 (g 3), [do flip ()]) with { return p => case snd p of [] => 0 | a :: l => fst p end | ask v k => k (g v) | flip u k => k true; k false }"
	emitted(t, text)
	for i := range len(text) {
		for _, broken := range []string{text[:i], text[:i] + text[i+1:], text[:i] + " " + text[i:], text[:i] + "1" + text[i:]} {
			if _, fault := core.Core(broken); fault.Kind != api.OK {
				checkFault(t, broken)
			} else {
				emitted(t, broken)
			}
		}
	}
}
