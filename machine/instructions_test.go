package machine_test

import (
	"math"
	"strconv"
	"strings"
	"testing"

	"effectus/api"
)

// What a body of function 0 can put: one value of each sort. make 1 is a function that has caught one value and gives its argument back, slot 1 a resumption.
const (
	aPair     = "int 1, int 2, pair"
	aList     = "int 3, int 0, cons"
	aFunction = "int 9, make 1"
	aRes      = "slot 1"
)

// withAll is a code whose body has two slots, the second of them with a resumption, which is made ahead of it.
func withAll(t testing.TB, shape, body string) api.Code {
	return assemble(t, shape, "op get", "deep 0",
		"fun 0 2: int 0, make 1, make 2, make 3, handle 0, store 1, "+body,
		"fun 1 0: arg, return",
		"fun 0 0: arg, snd, return",
		"fun 0 0: int 0, do 0, return")
}

const (
	bodyAt = 6              // where the body of withAll begins
	ahead  = bodyAt + 2 + 3 // how many instructions withAll does ahead of it
)

// TestPlain: what each instruction puts; the body's value is shown by a shape.
func TestPlain(t *testing.T) {
	for _, row := range []struct{ shape, body, want string }{
		{"i", "int 5", "5"}, {"i", "int -1", "-1"},
		{"i", "int " + strconv.Itoa(math.MaxInt), "9223372036854775807"}, {"i", "int " + strconv.Itoa(math.MinInt), "-9223372036854775808"},
		{"i", "slot 0", "0"}, {"i", "int 4, store 0, slot 0", "4"}, {"i", "int 4, store 0, int 5, store 0, slot 0", "5"},
		{"i", "int 4, store 0, slot 0, slot 0, sign +", "8"},
		{"i", "int 4, int 5, drop", "4"}, {"i", "int 4, int 5, store 0", "4"},
		{"pii", aPair, "(1, 2)"}, {"i", aPair + ", fst", "1"}, {"i", aPair + ", snd", "2"},
		{"ppiii", "int 1, int 2, pair, int 3, pair", "((1, 2), 3)"}, {"pipii", "int 1, int 2, int 3, pair, pair", "(1, (2, 3))"},
		{"li", aList, "[3]"}, {"i", aList + ", head", "3"}, {"li", aList + ", rest", "[]"}, {"li", "int 1, int 2, int 0, cons, cons", "[1, 2]"},
		{"li", "int 1, int 2, int 0, cons, cons, rest", "[2]"},
		{"i", aList + ", empty", "0"}, {"i", "int 0, empty", "1"},
		{"i", "int 7, int 5, sign +", "12"}, {"i", "int 7, int 5, sign -", "2"}, {"i", "int 7, int 5, sign *", "35"},
		{"i", "int 7, int 5, sign <", "0"}, {"i", "int 5, int 7, sign <", "1"}, {"i", "int 5, int 5, sign <", "0"}, {"i", "int -5, int 5, sign <", "1"},
		{"i", "int 5, int 5, sign ==", "1"}, {"i", "int 5, int 7, sign ==", "0"},
		{"i", "int 9223372036854775807, int 1, sign +", "-9223372036854775808"}, {"i", "int -9223372036854775808, int 1, sign -", "9223372036854775807"},
		{"i", "int 9223372036854775807, int 2, sign *", "-2"}, {"i", "int -9223372036854775808, int 9223372036854775807, sign <", "1"},
		{"i", "int 4294967296, int 4294967296, sign *", "0"},
		{"f", aFunction, "fn"}, {"f", aRes, "fn"},
		{"i", aFunction + ", int 5, call", "5"}, {"pii", aFunction + ", int 1, int 2, pair, call", "(1, 2)"}, {"i", aRes + ", int 6, call", "6"},
		{"i", "int 1, " + aFunction + ", int 5, call, sign +", "6"}, {"i", "int 1, " + aRes + ", int 6, call, sign +", "7"},
		{"pipii", "int 1, int 2, " + aFunction + ", int 3, call, pair, pair", "(1, (2, 3))"},
	} {
		c := withAll(t, row.shape, row.body+", return")
		got := play(t, c, 100, 100)
		if got.Kind != api.Done || got.Value != row.want {
			t.Errorf("%s: %+v, want %s", row.body, got, row.want)
		}
	}
}

// TestWrong: what is asked of a value that it has not is Wrong, and is not done. In a form VALUE is the value, and ! stands ahead of the instruction that wants it.
func TestWrong(t *testing.T) {
	sorts := map[string]string{"zero": "int 0", "five": "int 5", "pair": aPair, "list": aList, "function": aFunction, "resumption": aRes}
	for _, row := range []struct{ form, good string }{
		{"VALUE, ! fst, return", "pair"}, {"VALUE, ! snd, return", "pair"}, {"VALUE, ! head, return", "list"}, {"VALUE, ! rest, return", "list"},
		{"VALUE, ! empty, return", "zero list"},
		{"int 5, VALUE, ! sign +, return", "zero five"}, {"VALUE, int 5, ! sign +, return", "zero five"}, {"VALUE, slot 0, ! sign ==, return", "zero five"},
		{"VALUE, ! unless NEXT, int 0, return", "zero five"},
		{"VALUE, int 1, ! call, return", "function resumption"}, {"VALUE, int 1, ! tail", "function resumption"},
		{"int 0, make 1, make 2, VALUE, ! handle 0, return", "function"},
		{"VALUE, store 0, int 7, ! patch 0 0, int 0, return", "function"},
	} {
		for sort, value := range sorts {
			body := strings.Replace(row.form, "VALUE", value, 1)
			before, behind, _ := strings.Cut(body, "!")
			steps := len(instructions(t, before))
			body = before + strings.Replace(behind, "NEXT", strconv.Itoa(bodyAt+steps+1), 1)
			got := play(t, withAll(t, "v", body), 200, 200)
			if good := strings.Contains(row.good, sort); good && got.Kind != api.Done || !good && got != wrong(ahead+steps) {
				t.Errorf("%s: %+v", body, got)
			}
		}
	}
}

// TestWrongFirst: of two values either one can be what is not asked for.
func TestWrongFirst(t *testing.T) {
	for _, value := range []string{aPair, aList, aFunction, aRes} {
		for sign := range strings.FieldsSeq(signs) {
			for _, body := range []string{value + ", int 1, sign " + sign, "int 1, " + value + ", sign " + sign, value + ", " + value + ", sign " + sign} {
				want := wrong(ahead + len(instructions(t, body)) - 1)
				if got := play(t, withAll(t, "v", body+", return"), 200, 200); got != want {
					t.Errorf("%s: %+v, want %+v", body, got, want)
				}
			}
		}
	}
}

// TestJumps: InJump goes on at A, InUnless if the number is not 1.
func TestJumps(t *testing.T) {
	for n, want := range map[int]string{1: "10", 0: "20", -1: "20", 2: "20", 257: "20", 1 << 32: "20", 1<<32 + 1: "20"} {
		c := assemble(t, "i", "fun 0 0: int "+strconv.Itoa(n)+", unless 4, int 10, jump 5, int 20, return")
		steps := map[string]int{"10": 5, "20": 4}[want]
		if got := play(t, c, 0, 10); got != done(want, steps) {
			t.Errorf("unless %d: %+v", n, got)
		}
	}
	sum := assemble(t, "i", "fun 0 2: int 10, store 0, "+ // 2: as long as 0 < slot 0
		"int 0, slot 0, sign <, unless 15, slot 1, slot 0, sign +, store 1, slot 0, int 1, sign -, store 0, jump 2, slot 1, return")
	if got := play(t, sum, 0, 200); got != done("55", 2+10*13+4+2) {
		t.Errorf("a loop: %+v", got)
	}
}

// TestCalls: a call has its argument, what its function has caught, and slots of its own, each the number 0 at first; what waits goes on behind it.
func TestCalls(t *testing.T) {
	plays(t, assemble(t, "pippiii", "fun 0 1: int 7, store 0, int 1, slot 0, int 3, int 0, cons, make 1, int 5, call, slot 0, pair, pair, return",
		"fun 2 2: free 1, head, int 8, store 1, free 0, slot 0, sign +, slot 1, sign +, arg, sign +, pair, return"),
		9, done("(1, ((3, 20), 7))", 14+13))
	plays(t, assemble(t, "ppiipii", "fun 0 0: int 1, int 2, int 3, int 4, make 1, int 0, call, return",
		"fun 4 0: free 0, free 1, pair, free 2, free 3, pair, pair, return"), 5+9, done("((1, 2), (3, 4))", 8+8))
	plays(t, assemble(t, "i", "fun 0 0: make 1, int 10, tail", "fun 0 1: arg, store 0, make 2, slot 0, call, int 1, sign +, return",
		"fun 0 1: slot 0, int 9, store 0, arg, sign *, slot 0, sign +, return"), 2, done("10", 3+8+8))
}

// TestTail: a call that ends with InTail is over before the other one begins: so there are never more calls, and what it alone held is not reached.
func TestTail(t *testing.T) {
	c := assemble(t, "i", "fun 0 0: make 1, int 50000, tail",
		"fun 0 1: arg, int 1, pair, store 0, arg, int 0, sign ==, unless 10, arg, return, make 1, arg, int 1, sign -, tail")
	// the function and the pair of a call, and the function of the next one
	for cells, want := range map[int]api.Outcome{3: memory(5), 4: memory(11), 5: done("0", 3+50000*13+10), 6: done("0", 3+50000*13+10), 100: done("0", 3+50000*13+10)} {
		if got := play(t, c, cells, api.MaxFuel); got != want {
			t.Errorf("%d cells: %+v, want %+v", cells, got, want)
		}
	}
}

// TestPatch: a field of the function in the slot becomes another value, also of one that is called, and is that of the same thing everywhere.
func TestPatch(t *testing.T) {
	plays(t, assemble(t, "i", "fun 0 2: int 1, int 2, make 1, store 0, slot 0, store 1, int 5, patch 0 1, slot 1, int 0, call, return",
		"fun 2 0: free 0, int 10, sign *, free 1, sign +, return"), 3, done("15", 12+6))
	// a function that has caught itself: the factorial of 5
	plays(t, assemble(t, "i", "fun 0 1: int 0, make 1, store 0, slot 0, patch 0 0, slot 0, int 5, call, return",
		"fun 1 0: arg, int 1, sign <, unless 6, int 1, return, arg, free 0, arg, int 1, sign -, call, sign *, return"), 2, done("120", 9+5*12+6))
	// a call whose own function is patched meanwhile
	plays(t, assemble(t, "i", "fun 0 1: int 4, make 1, store 0, slot 0, slot 0, call, return",
		"fun 1 1: arg, store 0, int 7, patch 0 0, free 0, return"), 2, done("7", 7+6))
	for _, field := range []int{2, 3, 65535} {
		c := assemble(t, "i", "fun 0 1: int 1, int 2, make 1, store 0, int 5, patch 0 "+strconv.Itoa(field)+", int 0, return", "fun 2 0: int 0, return")
		plays(t, c, 3, wrong(5))
	}
	plays(t, assemble(t, "i", "fun 0 1: int 5, patch 0 0, int 0, return"), 0, wrong(1))
}
