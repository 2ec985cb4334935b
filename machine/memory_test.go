package machine_test

import (
	"fmt"
	"strings"
	"testing"

	"effectus/api"
	"effectus/machine"
)

// lives is how many cells are reached behind each instruction, from the beginning on.
func lives(t testing.TB, c api.Code, cells int) []int {
	t.Helper()
	m := load(t, c, cells)
	out := []int{m.Live()}
	for m.Go(1) > 0 && len(out) < 1000 {
		out = append(out, m.Live())
	}
	return out
}

func checkLives(t *testing.T, about string, c api.Code, want ...int) {
	t.Helper()
	play(t, c, 1000, 1000)
	if got := lives(t, c, 1000); fmt.Sprint(got) != fmt.Sprint(want) {
		t.Errorf("%s: %v cells are reached, want %v", about, got, want)
	}
}

// TestLive: what is reached from the calls and the tags, and how many cells it takes.
func TestLive(t *testing.T) {
	checkLives(t, "values", assemble(t, "i", "fun 0 0: int 1, int 2, pair, int 3, int 0, cons, drop, drop, int 0, return"), 0, 0, 0, 3, 3, 3, 6, 3, 0, 0, 0)
	checkLives(t, "slots", assemble(t, "i", "fun 0 2: int 1, int 2, pair, store 1, slot 1, store 0, int 0, store 1, slot 0, fst, return"), 0, 0, 0, 3, 3, 3, 3, 3, 3, 3, 3, 0)
	checkLives(t, "a thing in a thing", assemble(t, "ppiii", "fun 0 0: int 1, int 2, pair, int 3, pair, fst, return"), 0, 0, 0, 3, 3, 6, 3, 0)
	checkLives(t, "one thing twice", assemble(t, "i", "fun 0 1: int 1, int 2, pair, store 0, slot 0, slot 0, pair, return"), 0, 0, 0, 3, 3, 3, 3, 6, 0)
	// a call holds its function, which holds what it has caught, and its argument; with InTail it is over before
	checkLives(t, "calls", assemble(t, "i", "fun 0 0: int 1, int 2, pair, make 1, int 1, int 2, pair, call, return",
		"fun 1 0: int 0, drop, make 2, int 3, tail", "fun 0 0: arg, return"), 0, 0, 0, 3, 5, 5, 5, 8, 8, 8, 8, 9, 9, 1, 1, 0, 0)
	// a function that has caught itself is given up when nothing else refers to it
	checkLives(t, "a ring", assemble(t, "i", "fun 0 1: int 0, make 1, store 0, slot 0, patch 0 0, int 0, store 0, int 5, return", "fun 1 0: arg, return"), 0, 0, 2, 2, 2, 2, 2, 0, 0, 0)
	// a handler is held by its segment alone
	checkLives(t, "handlers", assemble(t, "i", "op get", "deep 0", "fun 0 0: make 1, make 1, make 2, handle 0, return", "fun 0 0: arg, return", "fun 0 0: int 0, return"),
		0, 1, 2, 3, 6, 6, 1+0, 1, 0, 0)
}

// TestLiveResumption: the cells of a resumption, and what it holds.
func TestLiveResumption(t *testing.T) {
	c := assemble(t, "i", "op get", "deep 0", "deep",
		"fun 0 0: make 1, make 2, make 3, handle 0, return",
		"fun 0 0: arg, return",
		"fun 0 0: arg, snd, drop, int 0, return",
		"fun 0 3: int 7, int 8, make 4, int 5, call, pair, fst, sign +, return",               // waits with two values and three slots
		"fun 0 0: make 1, make 5, handle 1, return",                                           // waits with no value
		"fun 0 1: int 1, int 2, pair, store 0, int 1, int 2, pair, int 9, do 0, drop, return") // is over behind drop
	m := load(t, c, 1000)
	m.Go(4 + 5 + 3 + 8)
	// three functions, of which that for the return is made twice; two handlers; two pairs
	things := (1 + 1 + 1) + 1 + (1 + 1) + (3 + 2) + (3 + 3)
	if live := m.Live(); live != things {
		t.Errorf("ahead of the operation %d cells, want %d", live, things)
	}
	m.Go(1)
	// what was handled: two calls in the first segment, one in the second
	resumption := 1 + 2 + (2 + (4 + 3 + 2) + (4 + 0 + 0)) + (2 + (4 + 1 + 1))
	if live := m.Live(); live != things+resumption+3 {
		t.Errorf("behind the operation %d cells, want %d", live, things+resumption+3)
	}
	m.Go(3)
	if live := m.Live(); live != things+resumption+3 {
		t.Errorf("as long as the pair is the argument %d cells, want %d", live, things+resumption+3)
	}
	for cells := range things + resumption + 3 + 2 {
		want := cells >= things+resumption+3
		if got := play(t, c, cells, 100); want != (got.Kind == api.Done) {
			t.Errorf("%d cells: %+v", cells, got)
		}
	}
}

// TestRoom: what an instruction makes needs room beside all that is reached when it begins, also what it takes, and all that it makes at once.
func TestRoom(t *testing.T) {
	plays(t, assemble(t, "pii", "fun 0 0: int 1, int 2, pair, return"), 3, done("(1, 2)", 4))
	plays(t, assemble(t, "i", "fun 0 0: int 1, int 2, pair, int 3, pair, fst, fst, return"), 6, done("1", 8))
	plays(t, assemble(t, "i", "fun 0 0: int 1, int 2, pair, drop, int 1, int 2, pair, drop, int 1, int 2, pair, fst, return"), 3, done("1", 13))
	plays(t, assemble(t, "li", "fun 0 0: int 1, int 2, int 3, int 0, cons, cons, cons, return"), 9, done("[1, 2, 3]", 8))
	plays(t, assemble(t, "f", "fun 0 0: make 1, return", "fun 0 0: arg, return"), 1, done("fn", 2))
	plays(t, assemble(t, "f", "fun 0 0: int 1, int 2, int 3, make 1, return", "fun 3 0: arg, return"), 4, done("fn", 5))
	plays(t, assemble(t, "i", "fun 0 0: int 0, return"), 0, done("0", 2))
	// where there is no room for all that InDo makes, Memory comes ahead of Wrong
	c := assemble(t, "i", "op get", "deep 0", "fun 0 0: make 1, int 0, make 2, handle 0, return", same, "fun 0 0: int 1, do 0, return")
	for cells, want := range map[int]api.Outcome{5 + 8: memory(5), 5 + 9: memory(5), 5 + 11: memory(5), 5 + 12: wrong(5), 5 + 13: wrong(5)} {
		if got := play(t, c, cells, 100); got != want {
			t.Errorf("%d cells: %+v, want %+v", cells, got, want)
		}
	}
	// what is to be handled is asked first
	c = assemble(t, "i", "op get", "deep 0", "fun 0 0: make 1, int 0, int 0, handle 0, return", same)
	if got := play(t, c, 1, 100); got != wrong(3) {
		t.Errorf("%+v", got)
	}
}

// TestLoop: a loop that resumes and forgets goes on in a heap that does not grow.
func TestLoop(t *testing.T) {
	for _, how := range []string{"deep 0", "deep 1"} {
		op := how[5:]
		c := assemble(t, "i", "op tick once", "op tock", how,
			"fun 0 0: make 1, make 2, make 3, handle 0, return", same,
			"fun 0 0: arg, snd, int 1, tail",
			"fun 0 0: make 4, int 100000, tail",
			"fun 0 0: arg, int 1, sign <, unless 6, int 0, return, int 0, do "+op+", drop, make 4, arg, int 1, sign -, tail")
		least := 0
		for cells := range 60 {
			got := play(t, c, cells, 2000)
			if got.Kind == api.Going {
				least = cells
				break
			}
		}
		want := (3 + 1 + 1) + 1 + (3 + 2 + 4) + 3 // the handler and its functions, that of the loop, the resumption, the pair
		if least != want {
			t.Errorf("%s: the least heap has %d cells, want %d", how, least, want)
		}
		c.Funs[3].Ins[1].N = 40000
		if got := play(t, c, least, api.MaxFuel); got.Kind != api.Done || got.Value != "0" {
			t.Errorf("%s: %+v", how, got)
		}
	}
}

// deepCode calls itself so often, and does something at the deepest place.
func deepCode(t testing.TB, depth int, last string) api.Code {
	return assemble(t, "i", "op get", "deep 0", "deep",
		fmt.Sprintf("fun 0 0: make 1, int %d, call, return", depth),
		"fun 0 0: int 0, arg, sign <, unless 10, make 1, arg, int 1, sign -, call, return, "+last,
		"fun 0 0: int 5, return", same)
}

// TestMaxCalls: there may be MaxCalls calls, and not one more, however it would come about.
func TestMaxCalls(t *testing.T) {
	for last, calls := range map[string]int{
		"int 3, return":                                 0,
		"make 2, int 0, call, return":                   1,
		"make 2, int 0, tail":                           0,
		"make 3, make 2, handle 1, return":              1,
		"make 3, make 2, handle 1, drop, int 0, return": 1,
	} {
		for _, depth := range []int{0, 1, 10, api.MaxCalls - 3, api.MaxCalls - 2, api.MaxCalls - 1, api.MaxCalls, api.MaxCalls + 5} {
			want := api.Done
			if 1+(depth+1)+calls > api.MaxCalls {
				want = api.Memory
			}
			c := deepCode(t, depth, last)
			got, _ := machine.Play(encode(t, c), api.MaxHeap, api.MaxFuel)
			if got.Kind != want {
				t.Errorf("%s, depth %d: %+v", last, depth, got)
			}
			if want == api.Memory && got.Value+got.Op != "" {
				t.Errorf("%s, depth %d: %+v", last, depth, got)
			}
		}
	}
}

// TestMaxCallsResumed: the calls of a resumption count, too, each time that it is applied; one that is too many is not applied.
func TestMaxCallsResumed(t *testing.T) {
	for _, last := range []string{"call, int 1, sign +, return", "tail"} {
		for _, depth := range []int{10, 300, 498, 499, 500, 501, 600} {
			// the clause applies the resumption of a call, depth calls and another one at a place where there are as many calls again
			c := assemble(t, "i", "op get", "deep 0",
				"fun 0 0: make 1, make 2, make 3, handle 0, return", same,
				fmt.Sprintf("fun 0 0: arg, snd, make 5, int %d, call, return", depth),
				fmt.Sprintf("fun 0 0: make 4, int %d, call, return", depth),
				"fun 0 0: int 0, arg, sign <, unless 10, make 4, arg, int 1, sign -, call, return, int 7, do 0, return",
				"fun 1 0: int 0, arg, sign <, unless 11, free 0, make 5, arg, int 1, sign -, call, return, free 0, int 3, "+last)
			stay := 1 + 1 + depth + 1
			if last == "tail" {
				stay--
			}
			want := api.Done
			if stay+1+depth+1 > api.MaxCalls {
				want = api.Memory
			}
			m := load(t, c, api.MaxHeap)
			m.Go(api.MaxFuel)
			if m.Tell().Kind != want {
				t.Errorf("%s, depth %d: %+v", last, depth, m.Tell())
			}
			if want == api.Memory && m.Tell().Steps != 4+3+9*depth+6+5+10*depth+6 {
				t.Errorf("%s, depth %d: %+v", last, depth, m.Tell())
			}
		}
	}
}

// TestMaxStack: a call may have MaxStack values; all of them are in a resumption, and go on.
func TestMaxStack(t *testing.T) {
	n := api.MaxStack
	c := assemble(t, "i", "op get", "deep 0",
		"fun 0 0: make 1, make 2, make 3, handle 0, return", same,
		"fun 0 0: arg, snd, int 1, call, arg, snd, int 2, call, sign +, return",
		"fun 0 0: "+strings.Repeat("int 1, ", n)+"do 0, "+strings.Repeat("sign +, ", n-1)+"return")
	cells := 5 + 1 + (3 + 2 + 4 + n - 1) + 3
	for extra, kind := range map[int]int{-1: api.Memory, 0: api.Done} {
		got, _ := machine.Play(encode(t, c), cells+extra, api.MaxFuel)
		if got.Kind != kind || kind == api.Done && got.Value != fmt.Sprint(2*(n-1)+3) {
			t.Errorf("%d cells: %+v", cells+extra, got)
		}
	}
}
