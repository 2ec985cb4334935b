package heap_test

import (
	"fmt"
	"math/rand"
	"testing"

	"effectus/api"
	"effectus/heap"
)

// script does the same with a heap and with its model: two bytes are what is done next.
type script struct {
	t       *testing.T
	heap    *heap.Heap
	model   *model
	roots   []api.Cell
	count   int
	gave    int // how often something was given up
	full    int // how often there was no room
	history string
}

func newScript(t *testing.T, cells, roots int) *script {
	return &script{t: t, heap: newHeap(t, cells), model: &model{cells: cells, roots: make([]modelCell, roots)}, roots: make([]api.Cell, roots)}
}

// do does what two bytes say, and holds what was answered, and then all that lies there, against the model.
func (s *script) do(b, c byte) {
	s.count++
	s.history += fmt.Sprintf(" %d.%d", b, c)
	used := s.model.used()
	to, from := int(c)%len(s.roots), int(c>>4)%len(s.roots)
	switch b % 8 {
	case 0, 1, 2:
		s.make(int(b>>3)%5, int(c)*257, int(b>>6), to)
	case 3, 4:
		s.set(to, int(b>>3), s.model.roots[from])
	case 5:
		s.set(to, int(b>>3), modelCell{n: int(c) - 20})
	case 6:
		s.hold(to, from, int(b>>3))
	default:
		if b < 128 {
			s.same("Collect", s.heap.Collect(over(s.roots)), s.model.collect())
		} else {
			s.make(int(b>>3)%8-1, int(c)*261-3, int(c)-3, to)
		}
	}
	if s.model.used() < used {
		s.gave++
	}
	s.same("the heap", shown(s.heap, s.roots), s.model.String())
	s.same("Used", s.heap.Used(), s.model.used())
}

// make makes a thing, which a root refers to then.
func (s *script) make(kind, tag, n, to int) {
	a, e := s.heap.Make(kind, tag, n, over(s.roots))
	x, want := s.model.make(kind, tag, n)
	s.same("Make", e, want)
	if want != api.OK {
		s.same("what Make answers with a fault", a, 0)
		if want == api.ErrMemory {
			s.full++
		}
		return
	}
	s.same("Make", a, s.model.address(x))
	s.roots[to], s.model.roots[to] = ptr(a), modelCell{to: x}
}

// set writes a field of what a root refers to.
func (s *script) set(to, i int, c modelCell) {
	x := s.model.roots[to].to
	if x == nil || len(x.fields) == 0 {
		return
	}
	i %= len(x.fields)
	s.heap.Set(s.roots[to].N, i, s.model.cell(c))
	x.fields[i] = c
}

// hold makes a root be a field of what another one refers to, or a number.
func (s *script) hold(to, from, i int) {
	x := s.model.roots[from].to
	if x == nil || len(x.fields) == 0 {
		s.roots[to], s.model.roots[to] = num(i), modelCell{n: i}
		return
	}
	i %= len(x.fields)
	s.roots[to], s.model.roots[to] = s.heap.Get(s.roots[from].N, i), x.fields[i]
}

func (s *script) same(about string, got, want any) {
	s.t.Helper()
	if got != want {
		s.t.Fatalf("%s is %v, want %v, behind%s", about, got, want, s.history)
	}
}

// TestScripts: whatever is done, in any order, is as the model does it.
func TestScripts(t *testing.T) {
	gave, full := 0, 0
	for seed := range int64(400) {
		random := rand.New(rand.NewSource(seed))
		s := newScript(t, random.Intn(60), 1+random.Intn(8))
		for range 200 {
			s.do(byte(random.Intn(256)), byte(random.Intn(256)))
		}
		gave += s.gave
		full += s.full
	}
	t.Log(gave, full)
	if gave < 3000 || full < 3000 {
		t.Errorf("given up %d times, no room %d times", gave, full)
	}
}

// FuzzScript: whatever is done is as the model does it.
func FuzzScript(f *testing.F) {
	f.Add([]byte{20, 3, 64, 0, 128, 1, 3, 16, 4, 1, 7, 0, 66, 2})
	f.Add([]byte{7, 1, 192, 0, 3, 0, 192, 0, 192, 0, 7, 7})
	f.Fuzz(func(t *testing.T, bytes []byte) {
		if len(bytes) < 2 {
			return
		}
		s := newScript(t, int(bytes[0]), 1+int(bytes[1]%16))
		for i := 2; i+1 < min(len(bytes), 400); i += 2 {
			s.do(bytes[i], bytes[i+1])
		}
	})
}
