package machine_test

import (
	"runtime"
	"strings"
	"testing"
	"time"

	"effectus/api"
)

// great is a code that goes on without an end, or to Memory, in a way that is hard to keep up with.
type great struct {
	about  string
	code   api.Code
	cells  int
	fuel   int
	kind   int
	mbytes uint64 // what may be asked for
}

func greats(t testing.TB) []great {
	ticks := func(how, clause, body string) api.Code {
		return assemble(t, "i", "op a", how, "fun 0 0: make 1, make 2, make 3, handle 0, return", same, "fun 0 0: "+clause, body)
	}
	again := "arg, snd, int 1, tail"
	most := api.MaxFuel
	return []great{
		{"a loop", assemble(t, "i", "fun 0 1: slot 0, int 1, sign +, store 0, jump 0"), 0, most, api.Going, 5},
		{"things in a small heap", assemble(t, "i", "fun 0 0: int 1, int 2, pair, drop, jump 0"), 3, most, api.Going, 300},
		{"things in a great heap", assemble(t, "i", "fun 0 0: int 1, int 2, pair, drop, jump 0"), api.MaxHeap, most, api.Going, 300},
		{"a list that fills the heap", assemble(t, "i", "fun 0 1: int 1, slot 0, cons, store 0, jump 0"), api.MaxHeap / 2, most, api.Memory, 300},
		{"calls", assemble(t, "i", "fun 0 0: make 1, int 0, call, drop, jump 0", same), 2, most, api.Going, 500},
		{"calls in the place of others", assemble(t, "i", "fun 0 0: make 1, int 0, tail", "fun 0 0: make 1, int 0, tail"), 3, most, api.Going, 500},
		{"calls with many slots", assemble(t, "i", "fun 0 0: make 1, int 0, call, drop, jump 0", "fun 0 65535: slot 65534, return"), 3, most, api.Going, 500},
		{"calls with many slots, of which the last is used", assemble(t, "i", "fun 0 0: make 1, int 0, call, drop, jump 0", "fun 0 65535: int 1, store 65534, slot 65534, return"), 3, most / 5, api.Going, 500},
		{"many calls with many slots", assemble(t, "i", "fun 0 0: make 1, int 0, call, return", "fun 0 65535: int 1, store 65534, make 1, int 0, call, return"), api.MaxHeap, most, api.Memory, 50},
		{"resumptions", ticks("deep 0", again, "fun 0 0: int 0, do 0, drop, jump 0"), 100, most, api.Going, 500},
		{"resumptions of many values", ticks("deep 0", again, "fun 0 0: "+strings.Repeat("int 7, ", 3999)+"do 0, jump 3999"), 10000, 20000, api.Going, 500},
		{"resumptions of many slots", ticks("deep 0", again, "fun 0 65535: int 0, do 0, drop, jump 0"), api.MaxHeap, 5000, api.Going, 50},
		{"segments with tags", ticks("deep 0", "arg, snd, arg, snd, tail", "fun 0 1: int 0, do 0, store 0, slot 0, slot 0, tail"), 100, most, api.Going, 500},
		{"segments without tags", ticks("shallow 0", "arg, snd, arg, snd, tail", "fun 0 1: int 0, do 0, store 0, slot 0, slot 0, tail"), 100, most, api.Going, 500},
		{"many calls, and things in a small heap", assemble(t, "i", "fun 0 0: make 1, int 0, call, return",
			"fun 0 0: arg, int 900, sign ==, unless 9, int 1, int 2, pair, drop, jump 4, make 1, arg, int 1, sign +, call, return"), 910, 60000, api.Going, 500},
	}
}

// TestGreat: what is hard to keep up with takes neither much time nor much memory.
func TestGreat(t *testing.T) {
	for _, row := range greats(t) {
		m := load(t, row.code, row.cells)
		var before, after runtime.MemStats
		runtime.ReadMemStats(&before)
		start := time.Now()
		m.Go(row.fuel)
		took := time.Since(start)
		runtime.ReadMemStats(&after)
		bytes := after.TotalAlloc - before.TotalAlloc
		t.Log(row.about, took, bytes>>20, m.Tell())
		if o := m.Tell(); o.Kind != row.kind || o.Kind == api.Going && o.Steps != row.fuel {
			t.Errorf("%s: %+v", row.about, o)
		}
		if took > 20*time.Second || bytes>>20 > row.mbytes {
			t.Errorf("%s: %v, %d bytes", row.about, took, bytes)
		}
		if live := m.Live(); live > row.cells {
			t.Errorf("%s: %d cells are reached of %d", row.about, live, row.cells)
		}
	}
}

// TestGreatRecord: a resumption that takes all of a great heap is made, kept while things move, and goes on.
func TestGreatRecord(t *testing.T) {
	slots := 60000
	c := assemble(t, "i", "op a", "deep 0", "fun 0 0: make 1, make 2, make 3, handle 0, return", same,
		"fun 0 1: arg, fst, drop, arg, snd, int 1, call, arg, snd, int 2, call, sign +, return",
		"fun 0 60000: int 0, make 4, int 12, call, drop, int 7, store 59999, int 1, int 2, pair, store 30000, int 0, do 0, slot 59999, sign +, slot 30000, snd, sign +, return",
		"fun 1 60000: arg, unless 3, jump 3, free 0, return")
	// the resumption, the pair that its slot has, and the rest
	want := 5 + 1 + 3 + (3 + 2 + 4 + slots) + 3
	for cells, kind := range map[int]int{want - 1: api.Memory, want: api.Done, want + 1: api.Done, api.MaxHeap: api.Done} {
		got := play(t, c, cells, 5000)
		if got.Kind != kind || kind == api.Done && got.Value != "21" {
			t.Errorf("%d cells: %+v", cells, got)
		}
	}
}
