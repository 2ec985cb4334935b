package heap_test

import (
	"fmt"
	"slices"
	"strings"
	"testing"

	"effectus/api"
	"effectus/heap"
)

// modelCell is a number, or refers to a thing.
type modelCell struct {
	to *modelThing
	n  int
}

// modelThing is a thing as the chapter tells it.
type modelThing struct {
	kind, tag int
	fields    []modelCell
}

// model is a heap as the chapter tells it: what lies there, in order, and what its user holds.
type model struct {
	cells  int
	things []*modelThing
	roots  []modelCell
}

func (m *model) used() int {
	used := 0
	for _, x := range m.things {
		used += len(x.fields) + 1
	}
	return used
}

// address is where a thing lies.
func (m *model) address(x *modelThing) int {
	a := 0
	for _, y := range m.things {
		if y == x {
			return a
		}
		a += len(y.fields) + 1
	}
	return -1
}

// cell is a modelled cell as the heap has it.
func (m *model) cell(c modelCell) api.Cell {
	if c.to == nil {
		return api.Cell{N: c.n}
	}
	return api.Cell{Ptr: true, N: m.address(c.to)}
}

func (m *model) collect() int {
	reached := map[*modelThing]bool{}
	var walk func(modelCell)
	walk = func(c modelCell) {
		if c.to == nil || reached[c.to] {
			return
		}
		reached[c.to] = true
		for _, f := range c.to.fields {
			walk(f)
		}
	}
	for _, c := range m.roots {
		walk(c)
	}
	m.things = slices.DeleteFunc(m.things, func(x *modelThing) bool { return !reached[x] })
	return m.used()
}

func (m *model) make(kind, tag, n int) (*modelThing, api.Errno) {
	if kind < 0 || kind > 4 || tag < 0 || tag > 65535 || n < 0 || n > 1000000 {
		return nil, api.ErrArg
	}
	if m.used()+n+1 > m.cells && m.collect()+n+1 > m.cells {
		return nil, api.ErrMemory
	}
	x := &modelThing{kind: kind, tag: tag, fields: make([]modelCell, n)}
	m.things = append(m.things, x)
	return x, api.OK
}

// String shows all that lies there, and the roots.
func (m *model) String() string {
	var out []string
	for _, x := range m.things {
		text := fmt.Sprintf("%d: %d.%d", m.address(x), x.kind, x.tag)
		for _, f := range x.fields {
			text += " " + shownCell(m.cell(f))
		}
		out = append(out, "("+text+")")
	}
	return strings.Join(out, " ") + " |" + shownCells(m.rootCells())
}

func (m *model) rootCells() []api.Cell {
	var out []api.Cell
	for _, c := range m.roots {
		out = append(out, m.cell(c))
	}
	return out
}

func shownCell(c api.Cell) string {
	if c.Ptr {
		return fmt.Sprintf("@%d", c.N)
	}
	return fmt.Sprint(c.N)
}

func shownCells(l []api.Cell) string {
	out := ""
	for _, c := range l {
		out += " " + shownCell(c)
	}
	return out
}

// shown shows all that lies in a heap, and the roots, as a model does.
func shown(h *heap.Heap, roots []api.Cell) string {
	var out []string
	for a := 0; a < h.Used(); a += h.Len(a) + 1 {
		text := fmt.Sprintf("%d: %d.%d", a, h.Kind(a), h.Tag(a))
		for i := range h.Len(a) {
			text += " " + shownCell(h.Get(a, i))
		}
		out = append(out, "("+text+")")
	}
	return strings.Join(out, " ") + " |" + shownCells(roots)
}

// over ranges over the places of a list.
func over(l []api.Cell) func(func(*api.Cell) bool) {
	return func(yield func(*api.Cell) bool) {
		for i := range l {
			if !yield(&l[i]) {
				return
			}
		}
	}
}

func ptr(a int) api.Cell { return api.Cell{Ptr: true, N: a} }

func num(n int) api.Cell { return api.Cell{N: n} }

// newHeap is a heap of so many cells.
func newHeap(t testing.TB, cells int) *heap.Heap {
	t.Helper()
	h, e := heap.New(cells)
	if h == nil || e != api.OK {
		t.Fatalf("a heap of %d cells: %v %v", cells, h, e)
	}
	return h
}

// put makes a thing with these fields; there has to be room.
func put(t testing.TB, h *heap.Heap, kind, tag int, fields ...api.Cell) int {
	t.Helper()
	a, e := h.Make(kind, tag, len(fields), func(func(*api.Cell) bool) { t.Fatal("the roots are asked for") })
	if e != api.OK {
		t.Fatalf("Make of %d fields: %v", len(fields), e)
	}
	for i, f := range fields {
		h.Set(a, i, f)
	}
	return a
}

func checkShown(t *testing.T, about string, h *heap.Heap, roots []api.Cell, want string) {
	t.Helper()
	if got := shown(h, roots); got != want {
		t.Errorf("%s: %s, want %s", about, got, want)
	}
}
