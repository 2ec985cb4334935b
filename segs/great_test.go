package segs_test

import (
	"runtime"
	"strconv"
	"testing"
	"time"
	"weak"

	"effectus/segs"
)

// greatPiece has the segments a and b, of so many frames each.
func greatPiece(frames int) *piece {
	s := segs.New[int, string]()
	for _, tag := range []string{"a", "b"} {
		s.Open(tag)
		for i := range frames {
			s.Push(i)
		}
	}
	p, _, _ := s.Cut(func(tag string) bool { return tag == "a" }, true)
	return p
}

// rounds puts and cuts a great piece many times, with one more frame, and with one less: how long that takes.
func rounds(t *testing.T, frames int) time.Duration {
	p := greatPiece(frames)
	s := segs.New[int, string]()
	start := time.Now()
	for i := range 3000 {
		s.Put(p)
		s.Push(7)
		off, _, ok := s.Cut(func(tag string) bool { return tag == "a" }, i%2 == 0)
		if !ok || off.Len() != 2*frames+1 || s.Len() != 0 {
			t.Fatalf("%v, %d frames, %d stay", ok, off.Len(), s.Len())
		}
		s.Put(p)
		if f, ok := s.Pop(); f != frames-1 || !ok {
			t.Fatalf("%d %v", f, ok)
		}
		off, _, ok = s.Cut(func(tag string) bool { return tag == "b" }, i%2 == 0)
		if !ok || off.Len() != frames-1 || s.Len() != frames {
			t.Fatalf("%v, %d frames, %d stay", ok, off.Len(), s.Len())
		}
		s = segs.New[int, string]()
	}
	return time.Since(start)
}

// TestTime: neither Cut nor Put takes longer for segments with more frames, nor does what is done with them then.
func TestTime(t *testing.T) {
	small := rounds(t, 1)
	great := rounds(t, 300000)
	t.Log(small, great)
	if great > 20*small+300*time.Millisecond {
		t.Errorf("with few frames it takes %v, with many %v", small, great)
	}
}

// TestMemory: frames that were put are not copied, not even where they are changed.
func TestMemory(t *testing.T) {
	p := greatPiece(100000)
	s := segs.New[int, string]()
	var before, after runtime.MemStats
	runtime.ReadMemStats(&before)
	for range 100 {
		s.Put(p)
		s.Push(1)
		s.Pop()
		s.Pop()
		s.Push(2)
	}
	runtime.ReadMemStats(&after)
	if took := after.TotalAlloc - before.TotalAlloc; took > 1000000 {
		t.Errorf("%d bytes", took)
	}
	if s.Len() != 100*200000 || s.Segments() != 201 {
		t.Errorf("%d frames, %d segments", s.Len(), s.Segments())
	}
}

// TestManyFrames: a segment of very many frames is pushed, ranged over, and popped.
func TestManyFrames(t *testing.T) {
	const many = 2000000
	s := segs.New[int, string]()
	for i := range many {
		s.Push(i)
	}
	next := 0
	for n, f := range s.All() {
		if n != 0 || f != next {
			t.Fatalf("frame %d of segment %d, want %d", f, n, next)
		}
		next++
	}
	if next != many || s.Len() != many {
		t.Fatalf("%d, %d of %d frames", next, s.Len(), many)
	}
	for i := range many {
		if f, ok := s.Pop(); f != many-1-i || !ok {
			t.Fatalf("%d %v, want %d", f, ok, many-1-i)
		}
	}
	if f, ok := s.Pop(); f != 0 || ok || s.Len() != 0 {
		t.Errorf("%d %v", f, ok)
	}
}

// TestManySegments: very many segments are opened, told, cut in the midst, put, and closed.
func TestManySegments(t *testing.T) {
	const many = 300000
	s := segs.New[int, string]()
	for i := range many {
		s.Open(strconv.Itoa(i))
		s.Push(i)
	}
	asked := 0
	p, tag, ok := s.Cut(func(tag string) bool { asked++; return tag == "100000" }, true)
	if tag != "100000" || !ok || asked != many-100000 || p.Segments() != many-100000 || s.Segments() != 100001 {
		t.Fatalf("%s %v, asked %d times, %d segments, %d stay", tag, ok, asked, p.Segments(), s.Segments())
	}
	s.Put(p)
	count := 0
	for n, tag := range s.Tags() {
		if count++; tag != strconv.Itoa(n-1) {
			t.Fatalf("segment %d has the tag %s", n, tag)
		}
	}
	for n, f := range s.All() {
		if count++; f != n-1 {
			t.Fatalf("segment %d has the frame %d", n, f)
		}
	}
	if count != 2*many || s.Len() != many {
		t.Fatalf("%d, and %d frames", count, s.Len())
	}
	for i := many - 1; i >= 0; i-- {
		f, _ := s.Pop()
		if tag, tagged, closed := s.Close(); f != i || tag != strconv.Itoa(i) || !tagged || !closed {
			t.Fatalf("%d: %d %s %v %v", i, f, tag, tagged, closed)
		}
	}
	checkShown(t, "in the end", s, "()")
}

// thing is what a frame or a tag may refer to; it is greater than what is made room for together with others.
type thing [64]int

// given says whether all things are given up that weak pointers refer to.
func given(list []weak.Pointer[thing]) bool {
	runtime.GC()
	for _, w := range list {
		if w.Value() != nil {
			return false
		}
	}
	return true
}

// TestGivenUp: a stack keeps nothing of what was popped, closed, or cut; a piece nothing of what it was cut from.
func TestGivenUp(t *testing.T) {
	type things = segs.Stack[*thing, *thing]
	var list []weak.Pointer[thing]
	fresh := func() *thing {
		x := new(thing)
		list = append(list, weak.Make(x))
		return x
	}
	filled := func() *things {
		s := segs.New[*thing, *thing]()
		for range 5 {
			s.Open(fresh())
			s.Push(fresh())
		}
		return s
	}
	all := func(*thing) bool { return true }
	emptied := filled()
	for range 5 {
		emptied.Pop()
		emptied.Close()
	}
	cut := filled()
	for range 5 {
		cut.Cut(all, true)
	}
	at := 0
	once := segs.New[*thing, *thing]()
	once.Put(func() *segs.Piece[*thing, *thing] {
		p, _, _ := filled().Cut(func(*thing) bool { at++; return at == 3 }, false)
		return p
	}())
	once.Cut(all, true)
	once.Cut(all, true)
	once.Pop()
	p, _, _ := func() (*segs.Piece[*thing, *thing], *thing, bool) {
		s := filled()
		s.Push(nil)
		s.Open(new(thing))
		return s.Cut(all, true)
	}()
	if !given(list) {
		t.Error("something is kept that nothing needs")
	}
	runtime.KeepAlive(emptied)
	runtime.KeepAlive(cut)
	runtime.KeepAlive(once)
	runtime.KeepAlive(p)
}
