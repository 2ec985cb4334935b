package effectus_test

import (
	"testing"

	"effectus/api"
	"effectus/effectus"
	"effectus/machine"
	"effectus/meaning"
)

// compiled is the bytes of a text's code.
func compiled(t testing.TB, text string) string {
	t.Helper()
	bytes, fault := effectus.Compile(text)
	if fault != (api.Fault{}) {
		t.Fatalf("%.60s.. %.60s: %v", text, text[fault.At:], fault)
	}
	return bytes
}

// played is how bytes come to their end.
func played(t testing.TB, bytes string, cells, fuel int) api.Outcome {
	t.Helper()
	o, fault := machine.Play(bytes, cells, fuel)
	if fault != (api.Fault{}) {
		t.Fatal(fault)
	}
	return o
}

// mostWaiting is how many expressions may wait for P14.5 to hold.
const mostWaiting = 480

// manyCells is a heap that is great enough for most codes: what has room in it has room in every greater one, and it is made sooner.
const manyCells = 50000

// checked is a text that was evaluated, and its code that was run.
type checked struct {
	text, code api.Outcome
	waiting    int
	held       bool // P14.5 is about it: no more wait than may do, and a heap can be as great as is asked for
}

// checkCode: the code of a text comes to the same as the text, neither too late nor too early (P14.5), and is never Wrong (P14.4).
func checkCode(t testing.TB, text string, fuel int) checked {
	t.Helper()
	bytes := compiled(t, text)
	want, _ := meaning.Run(text, fuel)
	if want.Kind == api.Going {
		return checked{text: want, code: checkGoing(t, text, bytes, fuel)}
	}
	waiting := waitingOf(text)
	cells := 8 * (want.Steps + 2) * (waiting + 2) * (len(text) + 8)
	held := cells <= api.MaxHeap && waiting <= mostWaiting
	fuel = 8 * (want.Steps + 1) * (len(text) + 1)
	got := played(t, bytes, min(cells, manyCells), fuel)
	if got.Kind == api.Memory && held {
		got = played(t, bytes, cells, fuel)
	}
	if got.Kind == api.Memory && !held {
		return checked{want, got, waiting, held}
	}
	if got.Kind != want.Kind || got.Op != want.Op || got.Value != want.Value {
		t.Errorf("%s:\n got %v\nwant %v, with %d waiting", text, got, want, waiting)
	}
	if want.Steps > 8*(got.Steps+1) {
		t.Errorf("%s: the code takes %d instructions, the text %d steps", text, got.Steps, want.Steps)
	}
	return checked{want, got, waiting, held}
}

// checkDone: a text and its code come to a value.
func checkDone(t *testing.T, text string) {
	t.Helper()
	if c := checkCode(t, text, api.MaxFuel); c.text.Kind != api.Done || c.code.Kind != api.Done {
		t.Errorf("%s: %v %v", text, c.text, c.code)
	}
}

// checkGoing: what has not ended with so much fuel has no code that ends with less than an eighth of it.
func checkGoing(t testing.TB, text, bytes string, fuel int) api.Outcome {
	t.Helper()
	got := played(t, bytes, manyCells, max(0, fuel/8-1))
	if got.Kind != api.Going && got.Kind != api.Memory {
		t.Errorf("%s: with %d the text is Going, but the code %v", text, fuel, got)
	}
	return got
}

// checkSmall: on every heap, and with any fuel, a code is as it is on a great one, or its memory or fuel is over; it is never Wrong.
func checkSmall(t testing.TB, text string, great api.Outcome) {
	t.Helper()
	bytes := compiled(t, text)
	for _, cells := range []int{0, 1, 5, 10, 15, 20, 30, 50, 80, 200, 1000} {
		for _, fuel := range []int{great.Steps / 2, great.Steps} {
			got := played(t, bytes, cells, fuel)
			if got != great && got.Kind != api.Memory && (got.Kind != api.Going || got.Steps != fuel) {
				t.Errorf("%s: on %d cells, with %d: %v, on a great heap %v", text, cells, fuel, got, great)
			}
		}
	}
}
