package machine_test

import (
	"fmt"
	"strings"
	"testing"
	"time"

	"effectus/api"
	"effectus/machine"
)

// value wants a body's value to be shown so by a shape.
func value(t *testing.T, shape, body, want string) {
	t.Helper()
	got := play(t, withAll(t, shape, body+", return"), 3000, 3000)
	if got.Kind != api.Done || got.Value != want || got.Op != "" {
		t.Errorf("%s by %s: %+v, want %s", body, shape, got, want)
	}
}

// TestShapes: every sort of value by every shape.
func TestShapes(t *testing.T) {
	for _, row := range []struct{ body, i, b, u, f, v, li, pib string }{
		{"int 0", "0", "false", "()", "fn", "?", "[]", "?"},
		{"int 1", "1", "true", "()", "fn", "?", "?", "?"},
		{"int 2", "2", "false", "()", "fn", "?", "?", "?"},
		{"int -1", "-1", "false", "()", "fn", "?", "?", "?"},
		{aPair, "?", "false", "()", "fn", "?", "?", "(1, false)"},
		{aList, "?", "false", "()", "fn", "?", "[3]", "?"},
		{aFunction, "?", "false", "()", "fn", "?", "?", "?"},
		{aRes, "?", "false", "()", "fn", "?", "?", "?"},
	} {
		for shape, want := range map[string]string{"i": row.i, "b": row.b, "u": row.u, "f": row.f, "v": row.v, "li": row.li, "pib": row.pib} {
			value(t, shape, row.body, want)
		}
	}
	// what refers to the second cell of the heap is not the number 1
	plays(t, assemble(t, "b", "fun 0 1: make 1, store 0, make 1, return", same), 2, done("false", 4))
}

// TestParts: lists and pairs by their fields, whatever these are.
func TestParts(t *testing.T) {
	for _, row := range [][3]string{
		{"lb", "int 1, int 0, int 1, int 0, cons, cons, cons", "[true, false, true]"},
		{"lu", "int 7, int 0, cons", "[()]"}, {"lv", "int 7, int 7, int 0, cons, cons", "[?, ?]"}, {"lf", aFunction + ", int 0, cons", "[fn]"},
		{"li", aPair + ", int 4, int 0, cons, cons", "[?, 4]"}, {"lb", aPair + ", int 0, cons", "[false]"},
		{"lli", "int 0, int 3, int 0, cons, int 0, cons, cons", "[[], [3]]"}, {"lli", "int 5, int 0, int 0, cons, cons", "[?, []]"},
		{"lpii", aPair + ", int 5, " + aPair + ", int 0, cons, cons, cons", "[(1, 2), ?, (1, 2)]"},
		// a list ends where something that is no list stands behind an element
		{"li", "int 4, int 5, cons", "[4]"}, {"li", "int 4, " + aPair + ", cons", "[4]"}, {"li", "int 4, " + aFunction + ", cons", "[4]"}, {"li", "int 4, int 6, int 1, cons, cons", "[4, 6]"},
		{"lli", "int 4, int 5, cons, int 1, cons", "[[4]]"},
		{"pii", "int -4, int 5, pair", "(-4, 5)"}, {"pui", "int -4, int 5, pair", "((), 5)"}, {"pbf", "int 1, int 5, pair", "(true, fn)"},
		{"plii", aList + ", int 5, pair", "([3], 5)"}, {"pili", "int 5, int 0, pair", "(5, [])"}, {"pili", "int 5, int 5, pair", "(5, ?)"},
		{"ppiipii", aPair + ", " + aPair + ", pair", "((1, 2), (1, 2))"},
		// where the first one is another thing its shape is passed over
		{"ppiilb", "int 3, int 1, int 0, cons, pair", "(?, [true])"}, {"ppipiib", aList + ", int 1, pair", "(?, true)"}, {"plpllbib", "int 0, int 1, pair", "([], true)"},
		{"plpllbib", "int 9, int 1, pair", "(?, true)"}, {"pppiiipbb", "int 9, int 5, pair, int 1, int 0, pair, pair", "((?, 5), (true, false))"},
		{"pvv", aPair, "(?, ?)"}, {"v", aPair, "?"}, {"u", aPair, "()"},
		{"plii", "int 1, int 1, pair, int 2, pair", "(?, 2)"},
	} {
		value(t, row[0], row[1], row[2])
	}
}

// TestMaxShown: of a value only the first MaxShown bytes are shown, and ... behind them, if there would be more.
func TestMaxShown(t *testing.T) {
	for n := range 140 {
		body := strings.Repeat("int 7, ", n) + "int 0" + strings.Repeat(", cons", n)
		want := "[" + strings.TrimSuffix(strings.Repeat("7, ", n), ", ") + "]"
		value(t, "li", body, shortened(want))
		want = "(((), " + want + "), 1)"
		value(t, "ppulii", "int 0, "+body+", pair, int 1, pair", shortened(want))
	}
	for _, last := range []int{0, 12, 123, 1234, 12345, 123456} {
		body := strings.Repeat("int 7, ", 132) + fmt.Sprintf("int %d, int 0", last) + strings.Repeat(", cons", 133)
		value(t, "li", body, shortened("["+strings.Repeat("7, ", 132)+fmt.Sprint(last)+"]"))
	}
	for _, n := range []int{198, 199, 200, 201, 399, 400, 401, 402, 65534} {
		// as many lists in each other
		body := "int 0"
		if n < 1000 {
			body += strings.Repeat(", int 0, cons", n-1)
		}
		want := "[]"
		if n < 1000 {
			want = strings.Repeat("[", n) + strings.Repeat("]", n)
		}
		value(t, strings.Repeat("l", n)+"i", body, shortened(want))
	}
}

func shortened(text string) string {
	if len(text) > 400 {
		return text[:400] + "..."
	}
	return text
}

// TestShownInTime: a value whose text would be beyond measure is shown in little time, by a shape that is as long as can be.
func TestShownInTime(t *testing.T) {
	doubled := strings.Repeat("store 0, slot 0, slot 0, pair, ", 14)
	listed := strings.Repeat("store 0, slot 0, slot 0, slot 0, int 0, cons, cons, cons, ", 60)
	full := func(n int) string { // of pairs of pairs, so deep
		shape := "i"
		for range n {
			shape = "p" + shape + shape
		}
		return shape
	}
	for _, row := range []struct{ about, shape, body, want string }{
		{"pairs", full(14), "int 5, " + doubled, strings.Repeat("(", 14) + "5, 5)"},
		{"lists", strings.Repeat("l", 60) + "i", "int 5, " + listed, strings.Repeat("[", 60) + "5, 5, 5]"},
		{"pairs to the left", strings.Repeat("p", 32767) + strings.Repeat("i", 32768), "int 5, " + strings.Repeat("int 5, pair, ", 900), strings.Repeat("(", 400) + "..."},
		{"pairs to the right", strings.Repeat("pi", 32767) + "i", strings.Repeat("int 5, ", 901) + strings.Repeat("pair, ", 900), strings.Repeat("(5, ", 100) + "..."},
		{"another thing", "p" + strings.Repeat("l", 65532) + "ii", "int 5, int 6, pair, ", "(?, 6)"},
		{"many other things", "l" + strings.Repeat("p", 32766) + strings.Repeat("i", 32767), strings.Repeat("int 5, ", 901) + strings.Repeat("cons, ", 900), "[?, ?, "},
	} {
		c := assemble(t, row.shape, "fun 0 1: "+row.body+"return")
		start := time.Now()
		got, fault := machine.Play(encode(t, c), api.MaxHeap, api.MaxFuel)
		took := time.Since(start)
		t.Log(row.about, took)
		if fault != (api.Fault{}) || got.Kind != api.Done || !strings.HasPrefix(got.Value, row.want) || len(got.Value) > api.MaxShown+3 {
			t.Errorf("%s: %+v", row.about, got)
		}
		if took > 2*time.Second {
			t.Errorf("%s: %v", row.about, took)
		}
	}
}
