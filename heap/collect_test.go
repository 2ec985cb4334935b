package heap_test

import (
	"math"
	"testing"

	"effectus/api"
)

// thing is what a test makes: a kind, a tag, fields.
type thing struct {
	kind, tag int
	fields    []api.Cell
}

func of(kind, tag int, fields ...api.Cell) thing { return thing{kind, tag, fields} }

// TestCollect: what is reached slides together, in its order; every root and every field refers to where its thing lies.
func TestCollect(t *testing.T) {
	for about, row := range map[string]struct {
		things []thing
		roots  []api.Cell
		want   string
	}{
		"nothing":           {nil, nil, " |"},
		"nothing, a number": {nil, []api.Cell{num(0)}, " | 0"},
		"no root":           {[]thing{of(0, 1, num(1)), of(1, 2)}, nil, " |"},
		"numbers are no references": {[]thing{of(0, 1, num(2)), of(1, 2, num(0))}, []api.Cell{num(0), num(2), ptr(2)},
			"(0: 1.2 0) | 0 2 @0"},
		"all reached": {[]thing{of(0, 1, ptr(2)), of(1, 2, num(9)), of(2, 3)}, []api.Cell{ptr(4), ptr(0)},
			"(0: 0.1 @2) (2: 1.2 9) (4: 2.3) | @4 @0"},
		"the first is given up": {[]thing{of(0, 1, ptr(2)), of(1, 2, num(9)), of(2, 3)}, []api.Cell{ptr(4), ptr(2)},
			"(0: 1.2 9) (2: 2.3) | @2 @0"},
		"the last is given up": {[]thing{of(0, 1, num(2)), of(1, 2, num(9)), of(2, 3)}, []api.Cell{ptr(0), ptr(2)},
			"(0: 0.1 2) (2: 1.2 9) | @0 @2"},
		"one in the midst is given up": {[]thing{of(0, 1, ptr(4)), of(1, 2, ptr(0)), of(2, 3, ptr(0))}, []api.Cell{ptr(0)},
			"(0: 0.1 @2) (2: 2.3 @0) | @0"},
		"every second": {[]thing{of(0, 0), of(4, 1, ptr(6), num(6)), of(1, 2, num(1)), of(3, 3, ptr(1), ptr(6), num(4)), of(0, 4, ptr(1)), of(2, 5)}, []api.Cell{ptr(1)},
			"(0: 4.1 @3 6) (3: 3.3 @0 @3 4) | @0"},
		"itself": {[]thing{of(0, 1, num(7)), of(1, 2, ptr(2), ptr(2))}, []api.Cell{ptr(2)}, "(0: 1.2 @0 @0) | @0"},
		"a ring": {[]thing{of(0, 1), of(1, 2, ptr(3)), of(1, 3, ptr(5)), of(1, 4, ptr(1)), of(0, 5)}, []api.Cell{num(8), ptr(5)}, "(0: 1.2 @2) (2: 1.3 @4) (4: 1.4 @0) | 8 @4"},
		"a ring, given up": {[]thing{of(0, 1), of(1, 2, ptr(3)), of(1, 3, ptr(1)), of(0, 5)}, []api.Cell{ptr(5), ptr(0)},
			"(0: 0.1) (1: 0.5) | @1 @0"},
		"reached twice": {[]thing{of(0, 1), of(0, 2), of(1, 3, ptr(1), ptr(1)), of(1, 4, ptr(2), ptr(1))}, []api.Cell{ptr(5), ptr(5), ptr(1), ptr(2)},
			"(0: 0.2) (1: 1.3 @0 @0) (4: 1.4 @1 @0) | @4 @4 @0 @1"},
		"only by what is given up": {[]thing{of(0, 1), of(1, 2, ptr(0)), of(0, 3)}, []api.Cell{ptr(3)}, "(0: 0.3) | @0"},
		"without fields":           {[]thing{of(0, 1), of(1, 2), of(2, 3), of(3, 4), of(4, 65535)}, []api.Cell{ptr(4), ptr(1), ptr(3)}, "(0: 1.2) (1: 3.4) (2: 4.65535) | @2 @0 @1"},
		"a great one over itself": {[]thing{of(0, 1), of(4, 2, num(1), num(2), ptr(1), num(4), num(5), ptr(8)), of(2, 3)}, []api.Cell{ptr(1)},
			"(0: 4.2 1 2 @0 4 5 @7) (7: 2.3) | @0"},
	} {
		h := newHeap(t, 20)
		for _, x := range row.things {
			put(t, h, x.kind, x.tag, x.fields...)
		}
		n := h.Collect(over(row.roots))
		if n != h.Used() {
			t.Errorf("%s: %d cells, %d are used", about, n, h.Used())
		}
		checkShown(t, about, h, row.roots, row.want)
		if again := h.Collect(over(row.roots)); again != n {
			t.Errorf("%s: %d cells, then %d", about, n, again)
		}
		checkShown(t, about+", again", h, row.roots, row.want)
	}
}

// TestNumbers: no number is taken for a reference, whatever it is, in a root or in a field.
func TestNumbers(t *testing.T) {
	for _, n := range []int{0, 1, 3, 5, -1, -4, 1 << 20, 1 << 32, 1 << 61, 1 << 62, 1<<62 + 3, -1 << 62, -1<<62 + 3, math.MinInt, math.MinInt + 3, math.MaxInt, math.MaxInt - 3} {
		h := newHeap(t, 8)
		put(t, h, api.ObPair, 1, num(n), num(n))
		put(t, h, api.ObPair, 2, num(n), ptr(0))
		put(t, h, api.ObPair, 3)
		roots := []api.Cell{num(n), ptr(6), num(n), num(n)}
		h.Collect(over(roots))
		if h.Used() != 1 || h.Tag(0) != 3 || roots[0] != num(n) || roots[1] != ptr(0) || roots[2] != num(n) || roots[3] != num(n) {
			t.Errorf("%d: %s", n, shown(h, roots))
		}
		roots[0] = ptr(put(t, h, api.ObCons, 4, num(n), ptr(0), num(n)))
		roots[1] = num(n)
		if h.Collect(over(roots)); h.Get(1, 0) != num(n) || h.Get(1, 1) != ptr(0) || h.Get(1, 2) != num(n) || h.Used() != 5 || roots[0] != ptr(1) || roots[3] != num(n) {
			t.Errorf("%d: %s", n, shown(h, roots))
		}
	}
}

// TestOneList: a list that grows in a heap in which it is made again and again stays whole.
func TestOneList(t *testing.T) {
	h := newHeap(t, 31)
	roots := []api.Cell{num(0), num(0)}
	for i := range 200 {
		if i%10 == 0 {
			roots[0] = num(0)
		}
		a, e := h.Make(api.ObCons, 0, 2, over(roots))
		if e != api.OK {
			t.Fatalf("%d: %v", i, e)
		}
		h.Set(a, 0, num(i))
		h.Set(a, 1, roots[0])
		roots[0] = ptr(a)
		c := roots[0]
		for j := i; j >= i-i%10; j-- {
			if !c.Ptr || h.Get(c.N, 0) != num(j) {
				t.Fatalf("%d: %v is not %d", i, c, j)
			}
			c = h.Get(c.N, 1)
		}
		if c != num(0) {
			t.Fatalf("%d: %v at the end", i, c)
		}
	}
}

// TestOnePlaceTwice: a root that is told more than once is one root.
func TestOnePlaceTwice(t *testing.T) {
	h := newHeap(t, 20)
	put(t, h, api.ObPair, 1)
	put(t, h, api.ObPair, 2, num(1))
	put(t, h, api.ObPair, 3, num(2))
	put(t, h, api.ObPair, 4, num(3))
	roots := []api.Cell{ptr(5), ptr(1), ptr(3), num(3)}
	h.Collect(func(yield func(*api.Cell) bool) {
		for i := range 12 {
			if !yield(&roots[i*7%4]) {
				return
			}
		}
	})
	checkShown(t, "told three times", h, roots, "(0: 0.2 1) (2: 0.3 2) (4: 0.4 3) | @4 @0 @2 3")
}

// TestWrittenBack: a root may be told by a place from which it is written back where it belongs, in any order.
func TestWrittenBack(t *testing.T) {
	h := newHeap(t, 20)
	kept := map[string]api.Cell{"n": num(2)}
	for i, name := range []string{"", "a", "", "b", "c"} {
		a := put(t, h, api.ObPair, i, num(i))
		if name != "" {
			kept[name] = ptr(a)
		}
	}
	h.Collect(func(yield func(*api.Cell) bool) {
		for name, c := range kept {
			ok := yield(&c)
			kept[name] = c
			if !ok {
				return
			}
		}
	})
	checkShown(t, "written back", h, []api.Cell{kept["a"], kept["b"], kept["c"], kept["n"]}, "(0: 0.1 1) (2: 0.3 3) (4: 0.4 4) | @0 @2 @4 2")
}

// TestAllRoots: the roots are ranged over to their end.
func TestAllRoots(t *testing.T) {
	h := newHeap(t, 20)
	roots := make([]api.Cell, 5)
	for i := range roots {
		roots[i] = ptr(put(t, h, api.ObPair, i))
	}
	told := 0
	h.Collect(func(yield func(*api.Cell) bool) {
		for i := range roots {
			if !yield(&roots[i]) {
				t.Error("broken off")
				return
			}
			told++
		}
	})
	if told == 0 || told%5 != 0 || h.Used() != 5 {
		t.Errorf("%d roots were told, %d cells are used", told, h.Used())
	}
}

// TestWildRoots: no roots, no places, and what refers to no thing: nothing panics, the last stays as it is, and what is reached is as ever.
func TestWildRoots(t *testing.T) {
	h := newHeap(t, 20)
	put(t, h, api.ObPair, 1)
	put(t, h, api.ObPair, 2, ptr(2), ptr(-1), ptr(7), ptr(19), ptr(20), ptr(math.MinInt), ptr(math.MaxInt), ptr(1))
	roots := []api.Cell{ptr(-1), ptr(2), ptr(9), ptr(1), ptr(10), ptr(20), ptr(1000000), ptr(math.MinInt), ptr(math.MaxInt)}
	h.Collect(func(yield func(*api.Cell) bool) {
		for i := range roots {
			if !yield(nil) || !yield(&roots[i]) {
				return
			}
		}
	})
	checkShown(t, "wild", h, roots, "(0: 0.2 @2 @-1 @7 @19 @20 @-9223372036854775808 @9223372036854775807 @0) |"+
		" @-1 @2 @9 @0 @10 @20 @1000000 @-9223372036854775808 @9223372036854775807")
	if n := h.Collect(nil); n != 0 || h.Used() != 0 {
		t.Errorf("without roots %d cells are reached", n)
	}
	for range 25 {
		if _, e := h.Make(api.ObCons, 0, 1, nil); e != api.OK {
			t.Errorf("there is room: %v", e)
		}
	}
}
