package machine_test

import (
	"testing"

	"effectus/api"
)

// behind does so many instructions, and wants so many cells to be reached then.
func behind(t *testing.T, c api.Code, steps, cells int) {
	t.Helper()
	m := load(t, c, 1000)
	if did := m.Go(steps); did != steps || m.Tell() != (api.Outcome{Steps: steps}) {
		t.Fatalf("did %d of %d, %+v", did, steps, m.Tell())
	}
	if live := m.Live(); live != cells {
		t.Errorf("%d cells are reached, want %d", live, cells)
	}
}

// The first handled function of emptied asks for b, and so comes into slot 0 as a resumption; its handler has no other operation. The second one has caught it, and applies it.
func emptied(t testing.TB, how, second, clause string, more ...string) api.Code {
	return assemble(t, "i", append([]string{"op a", "op b", "deep 1", how,
		"fun 0 1: make 1, make 2, make 3, handle 0, store 0, make 1, make 4, slot 0, make 5, handle 1, return",
		same,
		"fun 0 0: arg, snd, return",
		"fun 0 0: int 1, do 1, do 0, int 1, sign +, return",
		"fun 0 0: " + clause,
		"fun 1 0: free 0, int 5, " + second}, more...)...)
}

// TestLeftOut: a segment that has neither a tag nor calls is not in a resumption: here that of a shallow handler whose only call is over.
func TestLeftOut(t *testing.T) {
	steps := 5 + 2 + 3 + 5 + 3 + 1
	firsts := (3 + 1 + 1) + 1 // the first handler, its functions, the function that it handles
	for _, row := range []struct {
		how, second string
		steps       int
		cells       int
		want        string
	}{
		// the second handler and its function for the return, and the call, are in the resumption or nowhere; slot 0 is with function 0
		{"shallow 0", "tail", steps, firsts + 9 + 1 + (3 + 2 + 4) + 3, "6"},
		{"deep 0", "tail", steps, firsts + 9 + 1 + (3 + 2 + 2 + 4) + 3 + (3 + 1), "6"},
		{"shallow 0", "call, return", steps, firsts + 9 + 1 + (3 + 2 + 4 + 2 + 4) + 3 + 2, "6"},
		{"deep 0", "call, return", steps, firsts + 9 + 1 + (3 + 2 + 4 + 2 + 4) + 3 + (3 + 1) + 2, "6"},
	} {
		c := emptied(t, row.how, row.second, "arg, snd, arg, fst, call, return")
		if got := play(t, c, 200, 200); got.Kind != api.Done || got.Value != row.want {
			t.Errorf("%+v: %+v", row, got)
		}
		behind(t, c, row.steps, row.cells)
	}
}

// TestUntagged: what is called where the innermost segment has no tag stands in that segment, which then is a segment of its own in a resumption; a value goes through it.
func TestUntagged(t *testing.T) {
	// The outer handler has a. What it handles makes two resumptions of b, the second one by a shallow handler. That one, applied, is a segment without a tag; its call
	// is over when the first one is applied in its place. There b is done again, and its function, which is called in the segment without a tag, does a.
	code := func(last string) api.Code {
		return assemble(t, "i", "op a", "op b", "deep 0", "deep 1", "shallow 1",
			"fun 0 0: make 1, make 2, make 3, handle 0, return",
			same,
			"fun 0 0: arg, snd, int 30, tail",
			"fun 0 2: make 1, make 4, make 5, handle 1, store 0, make 1, make 6, make 7, handle 2, store 1, slot 1, slot 0, call, int 100, sign +, return",
			"fun 0 0: arg, fst, unless 6, arg, snd, return, int 9, do 0, drop, arg, snd, int 2, tail",
			"fun 0 0: int 1, do 1, drop, int 0, do 1, int 7, sign +, return",
			"fun 0 0: arg, snd, return",
			"fun 0 1: int 1, do 1, store 0, slot 0, int 4, "+last)
	}
	c := code("tail")
	if got := play(t, c, 300, 300); got.Kind != api.Done || got.Value != "109" {
		t.Errorf("%+v", got)
	}
	// up to the first a: function 0, 3, the first b, the second one, both applied
	steps := 4 + 4 + (2 + 6) + 5 + (2 + 3) + 4 + 4 + 3 + 5
	things := (3 + 1 + 1) + 1 // the outer handler, its functions, function 3
	first := 1 + 3 + 1 + 1 + (3 + 2 + 4)
	second := 1 + (3 + 2 + 4 + 1)
	pair := 3
	again := 3 + 2 + 4 // the resumption of the second b, which the function for b has
	// the resumption of a: the outer handler's segment with function 3, then that without a tag with the function for b
	outer := 3 + 2 + (4 + 2) + 2 + 4
	behind(t, c, steps, things+first+second+pair+again+outer+pair)
	c = code("call, return")
	if got := play(t, c, 300, 300); got.Kind != api.Done || got.Value != "109" {
		t.Errorf("%+v", got)
	}
	behind(t, c, steps, things+first+second+pair+again+outer+4+1+pair)
}

// TestReturns: a value is given back through segments without tags and without calls, to the first handler, the first call, or the end.
func TestReturns(t *testing.T) {
	// resumptions of a shallow handler are applied one in the place of the other: each leaves a segment without a tag and without calls
	lines := func(first string) api.Code {
		return assemble(t, "i", "op b", "shallow 0", "deep",
			"fun 0 1: make 1, make 2, make 3, handle 0, store 0, "+first,
			same, "fun 0 0: arg, snd, return",
			"fun 0 1: int 0, do 0, store 0, slot 0, empty, unless 8, int 4, return, slot 0, head, slot 0, rest, tail",
			"fun 0 0: arg, int 10, sign *, return",
			"fun 1 0: free 0, free 0, free 0, int 0, cons, cons, tail")
	}
	for first, want := range map[string]string{
		"slot 0, slot 0, slot 0, slot 0, int 0, cons, cons, cons, call, return":                "4",
		"slot 0, slot 0, slot 0, slot 0, int 0, cons, cons, cons, tail":                        "4",
		"int 1, slot 0, slot 0, slot 0, slot 0, int 0, cons, cons, cons, call, sign +, return": "5",
		"make 4, slot 0, make 5, handle 1, return":                                             "40",
		"make 4, slot 0, make 5, handle 1, int 1, sign +, return":                              "41",
		"slot 0, int 0, tail": "4",
	} {
		if got := play(t, lines(first), 300, 300); got.Kind != api.Done || got.Value != want {
			t.Errorf("%s: %+v, want %s", first, got, want)
		}
	}
	// Wrong, where a handler behind such segments has no function for its return: nothing was done
	c := lines("int 5, slot 0, make 5, handle 1, return")
	m := load(t, c, 300)
	steps := 0
	live := 0
	for m.Go(1) > 0 {
		steps++
		live = m.Live()
	}
	if m.Tell() != wrong(steps) || m.Live() != live || live == 0 {
		t.Errorf("%+v, %d cells are reached, %d before", m.Tell(), m.Live(), live)
	}
	play(t, c, 300, 300)
}
