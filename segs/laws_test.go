package segs_test

import (
	"fmt"
	"math/rand"
	"testing"

	"effectus/segs"
)

// script does the same with two stacks and with their models: each byte is what is done next.
type script struct {
	t       *testing.T
	stacks  [2]*stack
	models  [2]model
	pieces  []*piece // the last few that were cut
	pieced  []model  // and how they have to stay
	frames  int
	cuts    int
	history string
}

func newScript(t *testing.T) *script {
	s := &script{t: t}
	for i := range s.stacks {
		s.stacks[i], s.models[i] = segs.New[int, string](), newModel()
	}
	return s
}

// do does what a byte says, and holds what was answered, and then both stacks and all pieces, against the models.
func (s *script) do(b byte) {
	i := int(b >> 7)
	what, which := b>>3&15, int(b&7)
	s.history += fmt.Sprintf(" %d.%d.%d", i, what, which)
	switch what {
	case 0, 1, 2, 3, 4:
		s.frames++
		s.stacks[i].Push(s.frames)
		s.models[i].push(s.frames)
	case 5, 6:
		f, ok := s.stacks[i].Pop()
		g, want := s.models[i].pop()
		s.same("Pop", fmt.Sprint(f, ok), fmt.Sprint(g, want))
	case 7:
		f, ok := s.stacks[i].Top()
		g, want := s.models[i].top()
		s.same("Top", fmt.Sprint(f, ok), fmt.Sprint(g, want))
	case 8, 9:
		tag := "abcd"[which>>1 : which>>1+1]
		s.stacks[i].Open(tag)
		s.models[i] = append(s.models[i].clone(), modelSegment{tag: tag, tagged: true})
	case 10:
		s.close(i)
	case 11, 12:
		s.cut(i, "abcd"[which>>1:which>>1+1], which&1 == 0)
	case 13:
		s.cut(i, "abcd"[which>>2:which>>2+2], which&1 == 0)
	default:
		s.put(i, which)
	}
	s.check()
}

func (s *script) close(i int) {
	tag, tagged, closed := s.stacks[i].Close()
	rest, a, b, c := s.models[i].close()
	s.models[i] = rest
	s.same("Close", fmt.Sprint(tag, tagged, closed), fmt.Sprint(a, b, c))
}

func (s *script) cut(i int, tags string, deep bool) {
	asked := ""
	p, tag, ok := s.stacks[i].Cut(wants(tags, &asked), deep)
	rest, off, wantTag, wantAsked := s.models[i].cut(tags, deep)
	s.models[i] = rest
	s.same("Cut", fmt.Sprint(tag, ok, asked, p != nil), fmt.Sprint(wantTag, off != nil, wantAsked, off != nil))
	if ok {
		s.cuts++
		s.pieces, s.pieced = append(s.pieces, p), append(s.pieced, off)
		if len(s.pieces) > 8 {
			s.pieces, s.pieced = s.pieces[1:], s.pieced[1:]
		}
	}
}

// put puts one of the pieces; none, if the stack would become too great to be looked at again and again.
func (s *script) put(i, which int) {
	if which >= len(s.pieces) {
		s.stacks[i].Put(nil)
		return
	}
	if len(s.models[i])+len(s.pieced[which]) > 60 {
		return
	}
	s.stacks[i].Put(s.pieces[which])
	s.models[i] = s.models[i].put(s.pieced[which])
}

func (s *script) same(about, got, want string) {
	s.t.Helper()
	if got != want {
		s.t.Fatalf("%s is %s, want %s, behind%s", about, got, want, s.history)
	}
}

func (s *script) check() {
	s.t.Helper()
	for i, m := range s.models {
		s.same("a stack", modelOf(s.t, s.stacks[i]).String(), m.String())
	}
	for i, m := range s.pieced {
		s.same("a piece", modelOf(s.t, s.pieces[i]).String(), m.String())
	}
}

// TestScripts: whatever is done, in any order, is as the model does it.
func TestScripts(t *testing.T) {
	cuts := 0
	for seed := range int64(300) {
		random := rand.New(rand.NewSource(seed))
		s := newScript(t)
		for range 200 {
			s.do(byte(random.Intn(256)))
		}
		cuts += s.cuts
	}
	if cuts < 3000 {
		t.Errorf("only %d cuts", cuts)
	}
}

// TestSameAgain: what is answered hangs on what was done alone: stacks that were made in other ways are the same.
func TestSameAgain(t *testing.T) {
	for seed := range int64(50) {
		random := rand.New(rand.NewSource(seed))
		s := newScript(t)
		for range 100 {
			s.do(byte(random.Intn(256)))
		}
		again := made(s.models[0])
		s.same("made anew", modelOf(t, again).String(), modelOf(t, s.stacks[0]).String())
		s.stacks[0] = again
		for range 100 {
			s.do(byte(random.Intn(256)))
		}
	}
}

// TestCutPut: to put on what was cut deep is to do nothing.
func TestCutPut(t *testing.T) {
	for seed := range int64(50) {
		random := rand.New(rand.NewSource(seed))
		s := newScript(t)
		for range 150 {
			s.do(byte(random.Intn(256)))
		}
		for _, stack := range s.stacks {
			p, _, ok := stack.Cut(func(string) bool { return random.Intn(3) == 0 }, true)
			if ok != (p.Segments() > 0) {
				t.Errorf("%v, of %d segments", ok, p.Segments())
			}
			stack.Put(p)
		}
		s.check()
	}
}

// TestWildWant: a want that changes the stack does no harm beyond it: nothing panics, and the pieces stay.
func TestWildWant(t *testing.T) {
	for seed := range int64(200) {
		random := rand.New(rand.NewSource(seed))
		s := newScript(t)
		for range 60 {
			s.do(byte(random.Intn(256)))
		}
		wild := s.stacks[0]
		for range 5 {
			wild.Cut(func(string) bool {
				switch random.Intn(5) {
				case 0:
					wild.Push(1)
				case 1:
					wild.Pop()
				case 2:
					wild.Close()
				case 3:
					wild.Open("a")
				default:
					wild.Cut(func(string) bool { return random.Intn(2) == 0 }, random.Intn(2) == 0)
				}
				return random.Intn(4) == 0
			}, random.Intn(2) == 0)
			for n, f := range wild.All() {
				if n < 0 || f < 0 {
					t.Error(n, f)
				}
			}
			for range wild.Tags() {
				wild.Close()
			}
		}
		for i, m := range s.pieced {
			s.same("a piece", modelOf(t, s.pieces[i]).String(), m.String())
		}
	}
}

// FuzzScript: whatever is done is as the model does it.
func FuzzScript(f *testing.F) {
	f.Add([]byte{0, 64, 0, 72, 0, 90, 112, 112, 40, 80})
	f.Add([]byte{64, 0, 95, 112, 240, 80, 90, 248})
	f.Fuzz(func(t *testing.T, bytes []byte) {
		s := newScript(t)
		for _, b := range bytes[:min(len(bytes), 300)] {
			s.do(b)
		}
	})
}
