package heap_test

import (
	"runtime"
	"testing"
	"time"

	"effectus/api"
	"effectus/heap"
)

// great fills heaps in the ways that are hard to go through; all is reached from the root that it answers, but for every second thing.
var great = map[string]func(t testing.TB, h *heap.Heap, cells int) api.Cell{
	"a long list, the last one first": func(t testing.TB, h *heap.Heap, cells int) api.Cell {
		list := num(0)
		for h.Used()+6 <= cells {
			put(t, h, api.ObPair, 1, num(1), num(2))
			list = ptr(put(t, h, api.ObCons, 0, num(1), list))
		}
		return list
	},
	"a long list, the first one first": func(t testing.TB, h *heap.Heap, cells int) api.Cell {
		for h.Used()+6 <= cells {
			put(t, h, api.ObCons, 0, ptr(h.Used()+6), num(1))
			put(t, h, api.ObPair, 1, num(1), num(2))
		}
		return ptr(0)
	},
	"one that has all others": func(t testing.TB, h *heap.Heap, cells int) api.Cell {
		n := (cells - 1) / 3
		a, e := h.Make(api.ObFun, 0, n, nil)
		if e != api.OK {
			t.Fatal(e)
		}
		for i := range n {
			h.Set(a, i, ptr(put(t, h, api.ObPair, 1)))
			put(t, h, api.ObPair, 2)
		}
		return ptr(a)
	},
	"each has the two ahead of it": func(t testing.TB, h *heap.Heap, cells int) api.Cell {
		one, two := num(0), num(0)
		for h.Used()+4 <= cells {
			put(t, h, api.ObPair, 1)
			one, two = ptr(put(t, h, api.ObPair, 1, one, two)), one
		}
		return one
	},
}

// TestGreat: a full heap is gone through, with next to no memory beside it, and in time that grows as the heap does.
func TestGreat(t *testing.T) {
	for about, fill := range great {
		took := map[int]time.Duration{}
		for _, cells := range []int{api.MaxHeap / 10, api.MaxHeap} {
			h := newHeap(t, cells)
			roots := []api.Cell{num(1), fill(t, h, cells)}
			used := h.Used()
			var before, after runtime.MemStats
			runtime.ReadMemStats(&before)
			start := time.Now()
			n := h.Collect(over(roots))
			took[cells] = time.Since(start)
			runtime.ReadMemStats(&after)
			if n != h.Used() || n < used/2-2 || n > used*3/4 {
				t.Errorf("%s: %d of %d cells", about, n, used)
			}
			if bytes := after.TotalAlloc - before.TotalAlloc; bytes > 50000 {
				t.Errorf("%s: %d cells, %d bytes beside", about, cells, bytes)
			}
			if stack := after.StackInuse - min(before.StackInuse, after.StackInuse); stack > 500000 {
				t.Errorf("%s: %d cells, %d bytes of stack", about, cells, stack)
			}
			if again := h.Collect(over(roots)); again != n {
				t.Errorf("%s: %d cells, then %d", about, n, again)
			}
		}
		t.Log(about, took)
		if took[api.MaxHeap] > 200*took[api.MaxHeap/10]+500*time.Millisecond {
			t.Errorf("%s: %v", about, took)
		}
	}
}

// TestGreatList: a list that takes all cells is there, element by element, when its things have moved.
func TestGreatList(t *testing.T) {
	h := newHeap(t, api.MaxHeap)
	put(t, h, api.ObFun, 1)
	list, length := num(0), 0
	for h.Used()+3 <= api.MaxHeap {
		list = ptr(put(t, h, api.ObCons, 0, num(length), list))
		length++
	}
	roots := []api.Cell{list}
	if n := h.Collect(over(roots)); n != 3*length {
		t.Fatalf("%d cells for %d elements", n, length)
	}
	c := roots[0]
	for i := length - 1; i >= 0; i-- {
		if c != ptr(3*i) || h.Kind(c.N) != api.ObCons || h.Get(c.N, 0) != num(i) {
			t.Fatalf("element %d is %v, %v", i, c, h.Get(c.N, 0))
		}
		c = h.Get(c.N, 1)
	}
	if c != num(0) {
		t.Errorf("%v at the end", c)
	}
}

// TestLittleMemory: Make asks for no memory, and Collect for no more than it takes to range over the roots.
func TestLittleMemory(t *testing.T) {
	h := newHeap(t, 1000)
	roots := make([]api.Cell, 10)
	each := over(roots)
	took := testing.AllocsPerRun(100, func() {
		for i := range 1000 {
			a, e := h.Make(api.ObCons, 0, 3, each)
			if e != api.OK {
				t.Fatal(e)
			}
			h.Set(a, 0, roots[i%10])
			roots[i%10] = ptr(a)
			if i%10 == 0 {
				clear(roots)
			}
		}
		h.Collect(each)
	})
	if took > 50 {
		t.Errorf("a thousand things took memory %v times", took)
	}
}

// TestManyRoots: what many roots refer to is gone through once.
func TestManyRoots(t *testing.T) {
	h := newHeap(t, api.MaxHeap)
	put(t, h, api.ObFun, 1)
	a, e := h.Make(api.ObFun, 2, api.MaxHeap-2, nil)
	if e != api.OK {
		t.Fatal(e)
	}
	start := time.Now()
	h.Collect(over([]api.Cell{ptr(0), ptr(a)}))
	one := time.Since(start)
	roots := make([]api.Cell, 5000)
	for i := range roots {
		roots[i] = ptr(a)
	}
	start = time.Now()
	h.Collect(over(roots))
	many := time.Since(start)
	t.Log(one, many)
	if many > 20*one+500*time.Millisecond {
		t.Errorf("with one root it takes %v, with many %v", one, many)
	}
	for _, c := range roots {
		if c != ptr(0) {
			t.Fatalf("a root is %v", c)
		}
	}
}
