package machine_test

import (
	"testing"

	"effectus/api"
)

// handled is the beginning of codes with two operations and a handler of the first one: function 1 is for its return, 2 for the operation, 3 is handled.
func handled(t testing.TB, shape, how string, funs ...string) api.Code {
	return assemble(t, shape, append([]string{"op get once", "op flip", how, "fun 0 0: make 1, make 2, make 3, handle 0, return"}, funs...)...)
}

const same = "fun 0 0: arg, return"

// TestExamples: the examples of chapter 5, as codes.
func TestExamples(t *testing.T) {
	twice := "fun 0 0: int 0, do 0, int 0, do 0, sign +, return"
	for _, row := range []struct {
		about string
		code  api.Code
		want  api.Outcome
	}{
		{"k 20 + 1", handled(t, "i", "deep 0", same, "fun 0 0: arg, snd, int 20, call, int 1, sign +, return", twice), api.Outcome{Kind: api.Done, Value: "42"}},
		{"k 1 + k 2", handled(t, "i", "deep 0", same, "fun 0 0: arg, snd, int 1, call, arg, snd, int 2, call, sign +, return", twice), api.Outcome{Kind: api.Spent, Op: "get"}},
		{"600", assemble(t, "i", "op get once", "shallow 0", "deep 0", "fun 0 0: make 1, make 2, make 3, handle 0, return", same,
			"fun 0 0: make 4, make 5, arg, snd, make 6, handle 1, return", twice,
			"fun 0 0: arg, int 100, sign *, return", "fun 0 0: arg, snd, int 5, tail", "fun 1 0: free 0, int 1, tail"), api.Outcome{Kind: api.Done, Value: "600"}},
		{"[1, 2]", handled(t, "li", "deep 1", same,
			"fun 0 1: arg, snd, int 1, call, store 0, slot 0, empty, unless 12, arg, snd, int 0, tail, slot 0, head, arg, snd, int 0, call, cons, return",
			"fun 0 0: int 0, do 1, unless 5, int 1, jump 6, int 2, int 0, cons, return"), api.Outcome{Kind: api.Done, Value: "[1, 2]"}},
		{"all flips", handled(t, "lpbb", "deep 1", "fun 0 0: arg, int 0, cons, return",
			"fun 0 1: arg, snd, int 1, call, store 0, slot 0, empty, unless 12, arg, snd, int 0, tail, slot 0, head, arg, snd, int 0, call, cons, return",
			"fun 0 0: int 0, do 1, int 0, do 1, pair, return"), api.Outcome{Kind: api.Done, Value: "[(true, true), (false, true), (false, false)]"}},
		{"no resumption is applied", handled(t, "i", "deep 0", same, "fun 0 0: arg, fst, return", "fun 0 0: int 1, int 7, do 0, sign +, return"), api.Outcome{Kind: api.Done, Value: "7"}},
	} {
		got := play(t, row.code, 1000, 1000)
		got.Steps = 0
		if got != row.want {
			t.Errorf("%s: %+v, want %+v", row.about, got, row.want)
		}
	}
}

// TestHandle: what is handled has the argument 0, and its value goes through the function for the return, which is not in the handler's sight; the fields of a handler are in their order.
func TestHandle(t *testing.T) {
	plays(t, handled(t, "i", "deep 0", "fun 0 0: arg, int 10, sign *, return", same, "fun 0 0: arg, int 4, sign +, return"),
		3+3, done("40", 5+4+4))
	plays(t, assemble(t, "i", "deep", "fun 0 0: make 1, make 2, handle 0, int 1, sign +, return", "fun 0 0: arg, int 10, sign *, return", "fun 0 0: int 4, return"),
		2+2, done("41", 6+2+4))
	for op, want := range map[string]string{"0": "(10, 5)", "1": "(20, 5)", "2": "(30, 5)"} {
		c := assemble(t, "pii", "op a", "op b", "op c", "deep 2 0 1",
			"fun 0 0: make 1, make 4, make 2, make 3, make 5, handle 0, return", same,
			"fun 0 0: int 10, arg, fst, pair, return", "fun 0 0: int 20, arg, fst, pair, return", "fun 0 0: int 30, arg, fst, pair, return",
			"fun 0 0: int 5, do "+op+", return")
		if got := play(t, c, 100, 100); got != done(want, 7+2+5) {
			t.Errorf("operation %s: %+v", op, got)
		}
	}
	// an operation that the function for the return does is not the handler's
	plays(t, handled(t, "i", "deep 0", "fun 0 0: arg, do 0, return", same, "fun 0 0: int 4, return"), 3+3, wrong(4+2+1))
	// nor is one that the function for the operation does
	plays(t, handled(t, "i", "deep 0", same, "fun 0 0: int 1, do 0, return", "fun 0 0: int 4, do 0, return"), (3+3)+(3+2+4)+3, wrong(4+1+1+1))
}

// TestNearest: the innermost handler that has the operation takes over; those between have to wait in the resumption.
func TestNearest(t *testing.T) {
	c := assemble(t, "i", "op a", "op b", "deep 0 1", "deep 0",
		"fun 0 0: make 1, make 2, make 3, make 4, handle 0, return",
		"fun 0 0: arg, int 1000, sign +, return",
		"fun 0 0: int 1, return",
		"fun 0 0: arg, snd, arg, fst, int 1, sign +, call, int 100, sign +, return",
		"fun 0 0: make 5, make 6, make 7, handle 1, return",
		"fun 0 0: arg, int 2, sign *, return",
		"fun 0 0: arg, snd, arg, fst, int 3, sign +, tail",
		"fun 0 0: int 10, do 0, do 1, int 7, sign +, return")
	// a: 13; b: 14; 21, times 2, and then 1000 and 100 more
	if got := play(t, c, 200, 200); got.Kind != api.Done || got.Value != "1142" {
		t.Errorf("%+v", got)
	}
	c.Handlers[1].Ops = []int{1}
	// a is the outer one's: 1
	if got := play(t, c, 200, 200); got.Kind != api.Done || got.Value != "1" {
		t.Errorf("%+v", got)
	}
	c.Handlers[0].Ops[0], c.Handlers[0].Ops[1] = 1, 0
	// a is the outer one's: 11; b the inner one's: 14; 21, times 2, and then 1000 and 100 more
	if got := play(t, c, 200, 200); got.Kind != api.Done || got.Value != "1142" {
		t.Errorf("%+v", got)
	}
}

// TestShallow: a shallow handler is not there any more when its resumption goes on: neither for operations nor for the return.
func TestShallow(t *testing.T) {
	back := "fun 0 0: arg, snd, int 5, call, int 1, sign +, return"
	for _, row := range []struct{ how, body, want string }{
		{"deep 1", "int 0, do 1, int 2, sign *", "1011"}, {"shallow 1", "int 0, do 1, int 2, sign *", "11"},
		{"deep 1", "int 0, do 1, int 0, do 1, sign *", "1027"}, {"shallow 1", "int 0, do 1, int 0, do 1, sign *", ""},
		{"shallow 1", "int 7", "1007"},
	} {
		c := handled(t, "i", row.how, "fun 0 0: arg, int 1000, sign +, return", back, "fun 0 0: "+row.body+", return")
		got := play(t, c, 100, 100)
		if row.want == "" && got.Kind != api.Wrong || row.want != "" && (got.Kind != api.Done || got.Value != row.want) {
			t.Errorf("%s, %s: %+v, want %s", row.how, row.body, got, row.want)
		}
	}
}

// TestAgain: a resumption goes on as often as it is applied, each time as it was: with the slots and the values that there were.
func TestAgain(t *testing.T) {
	c := handled(t, "li", "deep 1", "fun 0 0: arg, int 0, cons, return",
		"fun 0 1: arg, snd, int 1, call, head, arg, snd, int 2, call, head, arg, snd, int 3, call, head, store 0, pair, drop, arg, snd, int 4, call, head, slot 0, int 0, cons, cons, return",
		"fun 0 1: int 100, store 0, int 5, int 0, do 1, sign +, slot 0, int 1, sign +, store 0, slot 0, sign +, return")
	if got := play(t, c, 500, 500); got.Kind != api.Done || got.Value != "[110, 109]" {
		t.Errorf("%+v", got)
	}
	// what was done to a function that both know of stays
	c = handled(t, "i", "deep 1", same,
		"fun 0 0: arg, snd, int 1, call, arg, snd, int 2, call, int 10, sign *, sign +, return",
		"fun 0 1: int 5, make 4, store 0, int 0, do 1, drop, slot 0, int 0, call, int 1, sign +, patch 0 0, slot 0, int 0, tail",
		"fun 1 0: free 0, return")
	if got := play(t, c, 500, 500); got.Kind != api.Done || got.Value != "76" {
		t.Errorf("%+v", got)
	}
}

// TestOnce: of an operation that is declared once each resumption is applied once, but every time that it is done has its own; a resumption of another one may be applied again.
func TestOnce(t *testing.T) {
	clause := "fun 0 0: arg, snd, int 1, call, drop, arg, snd, int 2, tail"
	for op, want := range map[string]api.Outcome{"0": spent("get", 4+2+4+2+2+4), "1": done("2", 4+2+4+2+2+4+1+2+1)} {
		plays(t, handled(t, "i", "deep "+op, same, clause, "fun 0 0: int 0, do "+op+", return"), 3+3+3+(3+2+4), want)
	}
	plays(t, handled(t, "i", "deep 0", same, "fun 0 0: arg, snd, int 2, tail", "fun 0 0: int 0, do 0, int 0, do 0, int 0, do 0, sign +, sign +, return"),
		3+3+(3+2+6)+3, done("6", 4+3*(2+4)+3+2+1))
	// applied by a function that has caught it
	c := handled(t, "i", "deep 0", same, "fun 0 1: arg, snd, make 4, store 0, slot 0, int 1, call, drop, slot 0, int 1, tail", "fun 0 0: int 0, do 0, return", "fun 1 0: free 0, int 3, tail")
	if got := play(t, c, 100, 100); got.Kind != api.Spent || got.Op != "get" {
		t.Errorf("%+v", got)
	}
}

// TestNoFunction: what takes the place of a handler's function may be anything, until it is called.
func TestNoFunction(t *testing.T) {
	resumption := "fun 0 2: make 1, make 2, make 3, handle 0, store 0, "
	for _, value := range []string{"int 0", "int 1, int 2, pair", "int 1, int 0, cons", "slot 0"} {
		funs := []string{same, "fun 0 0: arg, snd, return", "fun 0 0: int 0, do 0, return", "fun 0 0: int 5, return"}
		n := 10 + len(instructions(t, value))
		for _, row := range []struct {
			body string
			want api.Outcome
		}{
			{value + ", make 2, make 4, handle 0, return", wrong(n + 3 + 1)},
			{value + ", make 2, make 3, handle 0, return", done("fn", n+3+2+3+1)},
			{"make 1, " + value + ", make 3, handle 0, return", wrong(n + 3 + 1)},
			{"make 1, " + value + ", make 4, handle 0, return", done("fn", n+3+2+2+1)},
			{"make 1, make 2, " + value + ", handle 0, return", wrong(n + 2)},
		} {
			c := assemble(t, "f", append([]string{"op get", "deep 0", resumption + row.body}, funs...)...)
			if got := play(t, c, 100, 100); got != row.want {
				t.Errorf("%s: %+v, want %+v", row.body, got, row.want)
			}
		}
	}
}

// TestUnhandled: an operation that no handler in sight has is Wrong.
func TestUnhandled(t *testing.T) {
	plays(t, assemble(t, "i", "op get", "fun 0 0: int 0, do 0, return"), 0, wrong(1))
	plays(t, handled(t, "i", "deep 0", same, same, "fun 0 0: int 0, do 1, return"), 3+3, wrong(4+1))
}
