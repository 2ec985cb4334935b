package heap_test

import (
	"math"
	"testing"

	"effectus/api"
	"effectus/heap"
)

// TestNew: from 0 to MaxHeap cells; no heap otherwise.
func TestNew(t *testing.T) {
	for _, cells := range []int{0, 1, 2, 1000, api.MaxHeap - 1, api.MaxHeap} {
		h, e := heap.New(cells)
		if h == nil || e != api.OK {
			t.Errorf("%d cells: %v %v", cells, h, e)
			continue
		}
		if h.Used() != 0 {
			t.Errorf("%d cells: %d are used", cells, h.Used())
		}
	}
	for _, cells := range []int{-1, -2, math.MinInt, api.MaxHeap + 1, math.MaxInt} {
		if h, e := heap.New(cells); h != nil || e != api.ErrArg {
			t.Errorf("%d cells: %v %v", cells, h, e)
		}
	}
}

// TestSize: a thing of n fields takes n + 1 cells, of as many as the heap has.
func TestSize(t *testing.T) {
	for _, cells := range []int{0, 1, 2, 5, api.MaxHeap} {
		h := newHeap(t, cells)
		for _, n := range []int{cells, cells + 1, api.MaxHeap} {
			if a, e := h.Make(api.ObFun, 1, min(n, api.MaxHeap), over(nil)); a != 0 || e != api.ErrMemory {
				t.Errorf("%d cells, %d fields: %d %v", cells, n, a, e)
			}
		}
		if h.Used() != 0 {
			t.Errorf("%d cells: %d are used", cells, h.Used())
		}
		if cells == 0 {
			continue
		}
		if a, e := h.Make(api.ObFun, 1, cells-1, over(nil)); a != 0 || e != api.OK || h.Used() != cells || h.Len(0) != cells-1 {
			t.Errorf("%d cells: %d %v, %d used, %d fields", cells, a, e, h.Used(), h.Len(0))
		}
	}
}

// TestMake: things come to lie one right behind the other, of every kind, with the least and the greatest tag, their fields the number 0.
func TestMake(t *testing.T) {
	h := newHeap(t, 60)
	want := 0
	for kind := api.ObPair; kind <= api.ObRes; kind++ {
		for i, tag := range []int{0, 1, 65535} {
			n := (kind + i) % 4
			a, e := h.Make(kind, tag, n, over(nil))
			if a != want || e != api.OK {
				t.Fatalf("%d.%d of %d fields lies at %d, %v, want %d", kind, tag, n, a, e, want)
			}
			want += n + 1
			if h.Kind(a) != kind || h.Tag(a) != tag || h.Len(a) != n || h.Used() != want {
				t.Errorf("%d.%d of %d fields: %d.%d of %d, %d used", kind, tag, n, h.Kind(a), h.Tag(a), h.Len(a), h.Used())
			}
			for i := range n {
				if c := h.Get(a, i); c != num(0) {
					t.Errorf("field %d of %d is %v", i, a, c)
				}
			}
		}
	}
	checkShown(t, "all", h, nil, "(0: 0.0) (1: 0.1 0) (3: 0.65535 0 0) (6: 1.0 0) (8: 1.1 0 0) (11: 1.65535 0 0 0) (15: 2.0 0 0) (18: 2.1 0 0 0) "+
		"(22: 2.65535) (23: 3.0 0 0 0) (27: 3.1) (28: 3.65535 0) (30: 4.0) (31: 4.1 0) (33: 4.65535 0 0) |")
}

// TestMakeArg: what may not be made is refused, and nothing happens: the roots are not asked for, and nothing is given up.
func TestMakeArg(t *testing.T) {
	for _, row := range [][3]int{
		{-1, 0, 0}, {5, 0, 0}, {math.MinInt, 0, 0}, {math.MaxInt, 0, 0}, {256, 0, 0}, {260, 0, 0},
		{0, -1, 0}, {0, 65536, 0}, {0, math.MinInt, 0}, {0, math.MaxInt, 0},
		{0, 0, -1}, {0, 0, api.MaxHeap + 1}, {0, 0, math.MinInt}, {0, 0, math.MaxInt}, {0, 0, math.MaxInt - 1}, {0, 0, 1 << 32},
		{5, 65536, -1}, {-1, 0, api.MaxHeap}, {0, -1, 100},
	} {
		h := newHeap(t, 6)
		put(t, h, api.ObPair, 3, num(1), ptr(0))
		put(t, h, api.ObCons, 4, num(2), ptr(0))
		a, e := h.Make(row[0], row[1], row[2], func(func(*api.Cell) bool) { t.Errorf("%v: the roots are asked for", row) })
		if a != 0 || e != api.ErrArg {
			t.Errorf("%v: %d %v", row, a, e)
		}
		checkShown(t, "afterwards", h, nil, "(0: 0.3 1 @0) (3: 1.4 2 @0) |")
	}
}

// TestNoRoom: where there is no room Collect is done first, and only there.
func TestNoRoom(t *testing.T) {
	h := newHeap(t, 7)
	put(t, h, api.ObPair, 1, num(5), num(6))
	put(t, h, api.ObFun, 2, num(7))
	put(t, h, api.ObFun, 3)
	put(t, h, api.ObFun, 4)
	roots := []api.Cell{ptr(3), num(3), ptr(6)}
	checkShown(t, "full", h, roots, "(0: 0.1 5 6) (3: 2.2 7) (5: 2.3) (6: 2.4) | @3 3 @6")
	a, e := h.Make(api.ObRes, 9, 3, over(roots))
	if a != 3 || e != api.OK {
		t.Errorf("%d %v", a, e)
	}
	checkShown(t, "made", h, roots, "(0: 2.2 7) (2: 2.4) (3: 4.9 0 0 0) | @0 3 @2")
	a, e = h.Make(api.ObRes, 9, 4, over(roots))
	if a != 0 || e != api.ErrMemory {
		t.Errorf("%d %v", a, e)
	}
	checkShown(t, "no room, but what was not reached is given up", h, roots, "(0: 2.2 7) (2: 2.4) | @0 3 @2")
	put(t, h, api.ObPair, 0, num(1), num(2), num(3)) // just as much as there is
	if a, e := h.Make(api.ObPair, 0, 0, over(append(roots, ptr(3)))); a != 0 || e != api.ErrMemory {
		t.Errorf("%d %v", a, e)
	}
	if a, e := h.Make(api.ObPair, 0, 7, over(nil)); a != 0 || e != api.ErrMemory || h.Used() != 0 {
		t.Errorf("more than the heap has: %d %v, %d used", a, e, h.Used())
	}
}

// TestFreshFields: fields are the number 0, even where others lay before.
func TestFreshFields(t *testing.T) {
	h := newHeap(t, 8)
	for round := range 5 {
		put(t, h, api.ObPair, 0, num(1), ptr(0), num(-1))
		put(t, h, api.ObCons, 1, ptr(0), num(7), ptr(4))
		roots := []api.Cell{ptr(0)}
		if a, e := h.Make(api.ObFun, round, 3, over(roots)); a != 4 || e != api.OK {
			t.Fatalf("%d %v", a, e)
		}
		for i := range 3 {
			if c := h.Get(4, i); c != num(0) {
				t.Errorf("field %d is %v", i, c)
			}
		}
		if h.Kind(4) != api.ObFun || h.Tag(4) != round {
			t.Errorf("%d.%d", h.Kind(4), h.Tag(4))
		}
		if n := h.Collect(over(nil)); n != 0 {
			t.Errorf("%d cells", n)
		}
	}
}

// TestGetSet: a field is read as it was written, and no other is changed.
func TestGetSet(t *testing.T) {
	h := newHeap(t, 10)
	for range 2 {
		put(t, h, api.ObRes, 7, num(1), num(2), num(3), num(4))
	}
	for _, c := range []api.Cell{num(0), num(5), num(-1), num(math.MinInt), num(math.MaxInt), num(1 << 62), ptr(0), ptr(5)} {
		for i := range 4 {
			before := shown(h, nil)
			old := h.Get(5, i)
			h.Set(5, i, c)
			if got := h.Get(5, i); got != c {
				t.Errorf("%v is read as %v", c, got)
			}
			h.Set(5, i, old)
			checkShown(t, "set back", h, nil, before)
		}
	}
	h.Set(5, 0, ptr(0))
	h.Set(0, 3, num(-9))
	checkShown(t, "set", h, nil, "(0: 4.7 1 2 3 -9) (5: 4.7 @0 2 3 4) |")
}

// TestNothingThere: where no thing lies, or it has no such field, nothing is told and nothing happens.
func TestNothingThere(t *testing.T) {
	h := newHeap(t, 12)
	put(t, h, api.ObHandler, 5, num(1), ptr(0))
	put(t, h, api.ObHandler, 6)
	put(t, h, api.ObHandler, 7, num(1), num(2))
	h.Collect(over([]api.Cell{ptr(0), ptr(3)})) // so that something stands behind the last thing
	before := shown(h, nil)
	for _, a := range []int{-1, 1, 2, 4, 5, 11, 12, 13, math.MinInt, math.MaxInt} {
		if h.Kind(a) != 0 || h.Tag(a) != 0 || h.Len(a) != 0 || h.Get(a, 0) != num(0) {
			t.Errorf("at %d: %d.%d of %d, %v", a, h.Kind(a), h.Tag(a), h.Len(a), h.Get(a, 0))
		}
		h.Set(a, 0, num(9))
	}
	for _, i := range []int{-1, 2, 3, -2, math.MinInt, math.MaxInt} {
		if c := h.Get(0, i); c != num(0) {
			t.Errorf("field %d is %v", i, c)
		}
		h.Set(0, i, num(9))
		h.Set(3, i, num(9))
	}
	h.Set(3, 0, num(9))
	checkShown(t, "afterwards", h, nil, before)
	var plain heap.Heap
	if a, e := plain.Make(0, 0, 0, nil); a != 0 || e != api.ErrMemory || plain.Used() != 0 || plain.Collect(nil) != 0 {
		t.Errorf("a heap that nobody made: %d %v", a, e)
	}
}
