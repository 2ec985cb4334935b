package machine_test

import (
	"math"
	"strings"
	"testing"

	"effectus/api"
	"effectus/code"
	"effectus/machine"
)

// twelve is a code of four instructions that comes to 12.
func twelve(t testing.TB) api.Code {
	return assemble(t, "i", "fun 0 0: int 5, int 7, sign +, return")
}

// TestLoadFaults: those of Decode, then those of Check, then ErrArg; with a fault there is no machine, and Play's outcome is zero.
func TestLoadFaults(t *testing.T) {
	good := encode(t, twelve(t))
	spoilt := encode(t, assemble(t, "i", "fun 0 0: int 5, fst, snd, drop, return"))
	for _, row := range []struct {
		about string
		bytes string
		cells int
		want  api.Fault
	}{
		{"nothing", "", 10, api.Fault{Kind: api.ErrEnd}},
		{"nothing, and too few cells", "", -1, api.Fault{Kind: api.ErrEnd}},
		{"another head", "EF2", 10, api.Fault{Kind: api.ErrHead, At: 2}},
		{"too long", strings.Repeat("E", api.MaxCode+1), 10, api.Fault{Kind: api.ErrLong}},
		{"cut off", good[:len(good)-1], 10, api.Fault{Kind: api.ErrEnd, At: len(good) - 1}},
		{"going on", good + "x", 10, api.Fault{Kind: api.ErrEnd, At: len(good)}},
		{"no instruction", good[:len(good)-1] + "\xff", 10, api.Fault{Kind: api.ErrOp, At: len(good) - 1}},
		{"no value", spoilt, 10, api.Fault{Kind: api.ErrFlow, At: 4}},
		{"no value, and too many cells", spoilt, api.MaxHeap + 1, api.Fault{Kind: api.ErrFlow, At: 4}},
		{"no function", encode(t, api.Code{Shape: "i"}), 10, api.Fault{Kind: api.ErrNumber}},
		{"no shape", encode(t, assemble(t, "", "fun 0 0: int 5, return")), 10, api.Fault{Kind: api.ErrNumber}},
		{"a jump to nowhere", encode(t, assemble(t, "i", "fun 0 0: jump 1")), 10, api.Fault{Kind: api.ErrJump}},
		{"too few cells", good, -1, api.Fault{Kind: api.ErrArg}},
		{"far too few cells", good, math.MinInt, api.Fault{Kind: api.ErrArg}},
		{"too many cells", good, api.MaxHeap + 1, api.Fault{Kind: api.ErrArg}},
		{"far too many cells", good, math.MaxInt, api.Fault{Kind: api.ErrArg}},
	} {
		if m, fault := machine.Load(row.bytes, row.cells); m != nil || fault != row.want {
			t.Errorf("%s: %v %v, want %v", row.about, m, fault, row.want)
		}
		if o, fault := machine.Play(row.bytes, row.cells, 10); o != (api.Outcome{}) || fault != row.want {
			t.Errorf("%s: %v %v, want %v", row.about, o, fault, row.want)
		}
	}
}

// TestLoad: a machine stands at its beginning, on a heap of 0 cells as on one of MaxHeap.
func TestLoad(t *testing.T) {
	for _, cells := range []int{0, 1, api.MaxHeap} {
		m := load(t, twelve(t), cells)
		if m.Tell() != (api.Outcome{}) || m.Live() != 0 {
			t.Errorf("%d cells: %+v, %d", cells, m.Tell(), m.Live())
		}
	}
}

// TestGo: so many instructions are done as are asked for, none for a number below 0, and none behind the end.
func TestGo(t *testing.T) {
	m := load(t, twelve(t), 0)
	for _, row := range []struct {
		n, did int
		want   api.Outcome
	}{
		{-1, 0, api.Outcome{}}, {0, 0, api.Outcome{}}, {math.MinInt, 0, api.Outcome{}},
		{1, 1, api.Outcome{Steps: 1}}, {2, 2, api.Outcome{Steps: 3}}, {0, 0, api.Outcome{Steps: 3}},
		{5, 1, done("12", 4)}, {5, 0, done("12", 4)}, {math.MaxInt, 0, done("12", 4)}, {-1, 0, done("12", 4)},
	} {
		if did := m.Go(row.n); did != row.did || m.Tell() != row.want {
			t.Errorf("Go(%d) is %d, %+v, want %d, %+v", row.n, did, m.Tell(), row.did, row.want)
		}
	}
}

// TestGoMost: one call does at most MaxFuel instructions; a machine may go on behind that.
func TestGoMost(t *testing.T) {
	c := assemble(t, "i", "fun 0 0: jump 0")
	m := load(t, c, 0)
	steps := 0
	for _, n := range []int{api.MaxFuel + 1, math.MaxInt, api.MaxFuel - 1} {
		did := m.Go(n)
		steps += did
		if did != min(n, api.MaxFuel) || m.Tell() != (api.Outcome{Steps: steps}) {
			t.Errorf("Go(%d) is %d, %+v", n, did, m.Tell())
		}
	}
	for _, row := range [][2]int{{-5, 0}, {math.MinInt, 0}, {0, 0}, {7, 7}, {api.MaxFuel, api.MaxFuel}, {api.MaxFuel + 5, api.MaxFuel}, {math.MaxInt, api.MaxFuel}} {
		if o, fault := machine.Play(encode(t, c), 0, row[0]); o != (api.Outcome{Steps: row[1]}) || fault != (api.Fault{}) {
			t.Errorf("fuel %d: %+v %v", row[0], o, fault)
		}
	}
}

// TestEnds: what ends as Done or Spent was done; what ends as Memory or Wrong was not, and nothing is done behind it.
func TestEnds(t *testing.T) {
	for _, row := range []struct {
		about string
		code  api.Code
		cells int
		want  api.Outcome
		live  int
	}{
		{"done", assemble(t, "pii", "fun 0 0: int 1, int 2, pair, return"), 3, done("(1, 2)", 4), 0},
		{"no room", assemble(t, "i", "fun 0 0: int 1, int 2, pair, int 3, pair, return"), 5, memory(4), 3},
		{"wrong", assemble(t, "i", "fun 0 0: int 1, int 2, pair, int 3, sign +, return"), 5, wrong(4), 3},
		// reached: the function of the clause, its argument (a pair), the resumption (of one segment with one call), its function, its handler and that one's first function
		{"spent", spentCode(t, "call, return"), 100, spent("get", 18), 1 + 3 + (3 + 2 + 4) + 1 + 3 + 1},
		{"spent at the end", spentCode(t, "tail"), 100, spent("get", 18), 0},
	} {
		m := load(t, row.code, row.cells)
		if did := m.Go(100); did != row.want.Steps || m.Tell() != row.want {
			t.Errorf("%s: did %d, %+v, want %+v", row.about, did, m.Tell(), row.want)
		}
		if live := m.Live(); live != row.live {
			t.Errorf("%s: %d cells are reached, want %d", row.about, live, row.live)
		}
		if did := m.Go(100); did != 0 || m.Tell() != row.want {
			t.Errorf("%s: %d instructions behind the end, %+v", row.about, did, m.Tell())
		}
		play(t, row.code, row.cells, 100)
	}
}

// spentCode applies a resumption of a once operation twice, the second time with the last instructions.
func spentCode(t testing.TB, last string) api.Code {
	return assemble(t, "i", "op put", "op get once", "deep 1",
		"fun 0 0: make 1, make 2, make 3, handle 0, return",
		"fun 0 0: arg, return",
		"fun 0 0: arg, snd, int 1, call, drop, arg, snd, int 2, "+last,
		"fun 0 0: int 3, do 1, return")
}

// TestNone: what is no machine has nothing to do, and does not panic.
func TestNone(t *testing.T) {
	for _, m := range []*machine.Machine{nil, {}} {
		if m.Go(10) != 0 || m.Tell() != (api.Outcome{}) || m.Live() != 0 {
			t.Errorf("%v: %+v", m, m.Tell())
		}
	}
}

// TestApart: machines of one code don't know of each other.
func TestApart(t *testing.T) {
	c := assemble(t, "i", "fun 0 1: int 1, int 2, pair, store 0, slot 0, snd, return")
	one, two := load(t, c, 3), load(t, c, 3)
	one.Go(4)
	if one.Live() != 3 || two.Live() != 0 || two.Tell() != (api.Outcome{}) {
		t.Errorf("%d %d %+v", one.Live(), two.Live(), two.Tell())
	}
	two.Go(10)
	if one.Tell() != (api.Outcome{Steps: 4}) || two.Tell() != done("2", 7) {
		t.Errorf("%+v %+v", one.Tell(), two.Tell())
	}
}

// TestBytes: a code that was changed in one byte is loaded just where it can be read and run.
func TestBytes(t *testing.T) {
	good := encode(t, spentCode(t, "tail"))
	loaded := 0
	for at := range len(good) {
		for _, b := range []byte{0, 1, 2, 3, 5, 8, 13, 16, 20, 255} {
			s := good[:at] + string([]byte{b}) + good[at+1:]
			c, want := code.Decode(s)
			if want.Kind == api.OK {
				want = code.Check(c)
			}
			if _, fault := machine.Load(s, 50); fault != want {
				t.Fatalf("%q: %v, want %v", s, fault, want)
			}
			if want.Kind == api.OK {
				loaded++
				play(t, c, 50, 40)
			}
		}
	}
	t.Log(loaded)
	if loaded < 50 {
		t.Errorf("%d could be run", loaded)
	}
}
