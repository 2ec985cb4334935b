package segs_test

import (
	"testing"

	"effectus/segs"
)

// TestExample: the chapter's example.
func TestExample(t *testing.T) {
	s := segs.New[int, string]()
	s.Push(1)
	s.Open("a")
	s.Push(2)
	s.Open("b")
	s.Push(3)
	checkShown(t, "at first", s, "(1) (a: 2) (b: 3)")
	asked := ""
	p, tag, ok := s.Cut(wants("a", &asked), true)
	if tag != "a" || !ok || asked != "b?a?" {
		t.Errorf("Cut: %q %v, asked %s", tag, ok, asked)
	}
	checkShown(t, "the piece", p, "(a: 2) (b: 3)")
	checkShown(t, "the stack", s, "(1)")
	s.Put(p)
	s.Put(p)
	checkShown(t, "put twice", s, "(1) (a: 2) (b: 3) (a: 2) (b: 3)")
	if f, ok := s.Pop(); f != 3 || !ok {
		t.Errorf("Pop: %d %v", f, ok)
	}
	if f, ok := s.Pop(); f != 0 || ok {
		t.Errorf("Pop of nothing: %d %v", f, ok)
	}
	if tag, tagged, closed := s.Close(); tag != "b" || !tagged || !closed {
		t.Errorf("Close: %q %v %v", tag, tagged, closed)
	}
	checkShown(t, "in the end", s, "(1) (a: 2) (b: 3) (a: 2)")
	checkShown(t, "the piece in the end", p, "(a: 2) (b: 3)")
}

// TestNew: a new stack, and one that nobody made, have one segment without frames.
func TestNew(t *testing.T) {
	var plain stack
	for about, s := range map[string]*stack{"New": segs.New[int, string](), "a plain one": &plain} {
		checkShown(t, about, s, "()")
		if s.Len() != 0 || s.Segments() != 1 {
			t.Errorf("%s: %d frames, %d segments", about, s.Len(), s.Segments())
		}
		if _, _, closed := s.Close(); closed {
			t.Errorf("%s: its first segment can't be closed", about)
		}
		s.Push(1)
		checkShown(t, about, s, "(1)")
	}
}

// TestPopTop: the last frame of the innermost segment, and no other.
func TestPopTop(t *testing.T) {
	for _, row := range []struct {
		stack string
		frame int
		ok    bool
		after string
	}{
		{"()", 0, false, "()"},
		{"(1)", 1, true, "()"},
		{"(1 2 3)", 3, true, "(1 2)"},
		{"(0)", 0, true, "()"},
		{"(1) (a:)", 0, false, "(1) (a:)"},
		{"(1) (a: 2 3)", 3, true, "(1) (a: 2)"},
		{"(1) ()", 0, false, "(1) ()"},
		{"() (2) (b: 1) (4 5)", 5, true, "() (2) (b: 1) (4)"},
	} {
		s := stackOf(t, row.stack)
		if f, ok := s.Top(); f != row.frame || ok != row.ok {
			t.Errorf("%s: Top is %d %v, want %d %v", row.stack, f, ok, row.frame, row.ok)
		}
		checkShown(t, row.stack+": after Top", s, row.stack)
		if f, ok := s.Pop(); f != row.frame || ok != row.ok {
			t.Errorf("%s: Pop is %d %v, want %d %v", row.stack, f, ok, row.frame, row.ok)
		}
		checkShown(t, row.stack+": after Pop", s, row.after)
	}
}

// TestPush: frames come to lie behind one another in the innermost segment.
func TestPush(t *testing.T) {
	for before, after := range map[string]string{
		"()": "(8 9)", "(1)": "(1 8 9)", "(1) (a:)": "(1) (a: 8 9)", "() (a: 1) (2)": "() (a: 1) (2 8 9)", "() () ()": "() () (8 9)",
	} {
		s := stackOf(t, before)
		s.Push(8)
		s.Push(9)
		checkShown(t, before, s, after)
	}
}

// TestOpen: a new innermost segment; a tag may be the zero one, and may be there already.
func TestOpen(t *testing.T) {
	s := segs.New[int, string]()
	s.Open("a")
	s.Open("")
	s.Push(1)
	s.Open("a")
	checkShown(t, "opened", s, "() (a:) (: 1) (a:)")
}

// TestClose: the innermost segment, if it has no frames and is not the first.
func TestClose(t *testing.T) {
	for _, row := range []struct {
		stack, tag     string
		tagged, closed bool
		after          string
	}{
		{"()", "", false, false, "()"},
		{"(1)", "", false, false, "(1)"},
		{"(1) (a:)", "a", true, true, "(1)"},
		{"(1) (a: 2)", "", false, false, "(1) (a: 2)"},
		{"(1) (:)", "", true, true, "(1)"},
		{"(1) ()", "", false, true, "(1)"},
		{"(1) (2)", "", false, false, "(1) (2)"},
		{"() (a:) (b:)", "b", true, true, "() (a:)"},
		{"() (a: 1) () (b:)", "b", true, true, "() (a: 1) ()"},
		{"() (a: 1) (b: 2) ()", "", false, true, "() (a: 1) (b: 2)"},
	} {
		s := stackOf(t, row.stack)
		if tag, tagged, closed := s.Close(); tag != row.tag || tagged != row.tagged || closed != row.closed {
			t.Errorf("%s: Close is %q %v %v", row.stack, tag, tagged, closed)
		}
		checkShown(t, row.stack, s, row.after)
	}
}

// TestCloseAll: segments are closed one by one, up to the first.
func TestCloseAll(t *testing.T) {
	s := stackOf(t, "(1) (a:) () (b:)")
	got := ""
	for {
		tag, tagged, closed := s.Close()
		if !closed {
			break
		}
		if tagged {
			got += tag
		} else {
			got += "-"
		}
	}
	if got != "b-a" {
		t.Errorf("closed %s", got)
	}
	checkShown(t, "closed", s, "(1)")
}

// TestCut: the innermost segment with a tag that is wanted, and all behind it; what is asked about.
func TestCut(t *testing.T) {
	for _, row := range []struct {
		stack, want, asked, tag, after, deep, shallow string
	}{
		{"(1) (a: 2) (b: 3)", "b", "b?", "b", "(1) (a: 2)", "(b: 3)", "(3)"},
		{"(1) (a: 2) (b: 3)", "a", "b?a?", "a", "(1)", "(a: 2) (b: 3)", "(2) (b: 3)"},
		{"(1) (a: 2) (b: 3)", "ab", "b?", "b", "(1) (a: 2)", "(b: 3)", "(3)"},
		{"(1) (a: 2) (a: 3) (a: 4)", "a", "a?", "a", "(1) (a: 2) (a: 3)", "(a: 4)", "(4)"},
		{"(1) (a: 2) (3) (b: 4) (5 6) ()", "a", "b?a?", "a", "(1)", "(a: 2) (3) (b: 4) (5 6) ()", "(2) (3) (b: 4) (5 6) ()"},
		{"(1) (a: 2) (3) (b: 4) (5 6) ()", "b", "b?", "b", "(1) (a: 2) (3)", "(b: 4) (5 6) ()", "(4) (5 6) ()"},
		{"() (a:)", "a", "a?", "a", "()", "(a:)", "()"},
		{"() (a:) (b:) (c:)", "b", "c?b?", "b", "() (a:)", "(b:) (c:)", "() (c:)"},
		{"(7 8 9) (a: 4 5 6) (b: 1 2 3)", "a", "b?a?", "a", "(7 8 9)", "(a: 4 5 6) (b: 1 2 3)", "(4 5 6) (b: 1 2 3)"},
	} {
		for _, deep := range []bool{true, false} {
			s := stackOf(t, row.stack)
			asked := ""
			p, tag, ok := s.Cut(wants(row.want, &asked), deep)
			if p == nil || tag != row.tag || !ok || asked != row.asked {
				t.Fatalf("%s: Cut of %s, %v: %v %q %v, asked %s", row.stack, row.want, deep, p, tag, ok, asked)
			}
			want := row.deep
			if !deep {
				want = row.shallow
			}
			checkShown(t, row.stack+": the piece", p, want)
			checkShown(t, row.stack+": the stack", s, row.after)
		}
	}
}

// TestCutZeroTag: a tag that is the zero one is a tag.
func TestCutZeroTag(t *testing.T) {
	s := stackOf(t, "(1) (: 2) (3)")
	asked := 0
	p, tag, ok := s.Cut(func(string) bool { asked++; return true }, true)
	if tag != "" || !ok || asked != 1 {
		t.Errorf("%q %v, asked %d times", tag, ok, asked)
	}
	checkShown(t, "the piece", p, "(: 2) (3)")
	s.Put(p)
	if p, _, ok = s.Cut(func(string) bool { return true }, false); !ok {
		t.Error("no cut")
	}
	checkShown(t, "the shallow piece", p, "(2) (3)")
	s.Put(p)
	if p, _, ok = s.Cut(func(string) bool { return true }, false); ok || p != nil {
		t.Error("there is no tag any more")
	}
}

// TestCutNone: where no tag is wanted nothing happens; each tag is asked about once, the innermost first.
func TestCutNone(t *testing.T) {
	for text, wanted := range map[string]string{
		"()": "", "(1 2)": "", "(1) (a: 2)": "a?", "(1) (a: 2) () (b:) (a: 3) (4)": "a?b?a?", "() () (5)": "",
	} {
		for _, deep := range []bool{true, false} {
			s := stackOf(t, text)
			asked := ""
			if p, tag, ok := s.Cut(wants("z", &asked), deep); p != nil || tag != "" || ok || asked != wanted {
				t.Errorf("%s: %v %q %v, asked %s", text, p, tag, ok, asked)
			}
			if p, tag, ok := s.Cut(nil, deep); p != nil || tag != "" || ok {
				t.Errorf("%s: cut by no want: %v %q %v", text, p, tag, ok)
			}
			checkShown(t, text, s, text)
		}
	}
}

// TestPut: a piece can be put again and again, on any stack, and stays as it is whatever is done there.
func TestPut(t *testing.T) {
	s, other := stackOf(t, "(1) (a: 2) (b: 3)"), stackOf(t, "(4) (c: 5)")
	p, _, _ := s.Cut(func(tag string) bool { return tag == "a" }, true)
	s.Put(p)
	other.Put(p)
	s.Push(6)
	other.Push(7)
	checkShown(t, "the one", s, "(1) (a: 2) (b: 3 6)")
	checkShown(t, "the other", other, "(4) (c: 5) (a: 2) (b: 3 7)")
	s.Pop()
	s.Pop()
	s.Close()
	s.Pop()
	s.Push(8)
	s.Open("d")
	checkShown(t, "the one", s, "(1) (a: 8) (d:)")
	checkShown(t, "the other", other, "(4) (c: 5) (a: 2) (b: 3 7)")
	checkShown(t, "the piece", p, "(a: 2) (b: 3)")
	shallow, _, _ := other.Cut(func(tag string) bool { return tag == "a" }, false)
	checkShown(t, "the shallow piece", shallow, "(2) (b: 3 7)")
	checkShown(t, "the piece", p, "(a: 2) (b: 3)")
	s.Put(shallow)
	s.Put(p)
	s.Put(shallow)
	checkShown(t, "all", s, "(1) (a: 8) (d:) (2) (b: 3 7) (a: 2) (b: 3) (2) (b: 3 7)")
}

// TestPutFirst: the first segment of a stack stays without a tag, and can't be closed, whatever is put behind it.
func TestPutFirst(t *testing.T) {
	s := stackOf(t, "() (a:)")
	p, _, _ := s.Cut(func(string) bool { return true }, true)
	s.Put(p)
	checkShown(t, "put", s, "() (a:)")
	if tag, tagged, closed := s.Close(); tag != "a" || !tagged || !closed {
		t.Errorf("Close: %q %v %v", tag, tagged, closed)
	}
	if _, _, closed := s.Close(); closed {
		t.Error("the first one can't be closed")
	}
}

// TestCutOfPut: a piece is cut out of one that was put, within it and across its beginning.
func TestCutOfPut(t *testing.T) {
	s := stackOf(t, "(1) (a: 2) (b: 3) (c: 4)")
	whole, _, _ := s.Cut(func(tag string) bool { return tag == "a" }, false)
	s.Open("z")
	s.Put(whole)
	inner, tag, _ := s.Cut(func(tag string) bool { return tag == "b" }, false)
	if tag != "b" {
		t.Errorf("cut at %s", tag)
	}
	checkShown(t, "the inner one", inner, "(3) (c: 4)")
	checkShown(t, "the stack", s, "(1) (z:) (2)")
	s.Put(inner)
	across, _, _ := s.Cut(func(tag string) bool { return tag == "z" }, true)
	checkShown(t, "the one across", across, "(z:) (2) (3) (c: 4)")
	checkShown(t, "the first", whole, "(2) (b: 3) (c: 4)")
	checkShown(t, "the inner one", inner, "(3) (c: 4)")
}

// TestNoPiece: a nil piece has nothing, and nothing happens where it is put.
func TestNoPiece(t *testing.T) {
	var none *piece
	if none.Len() != 0 || none.Segments() != 0 {
		t.Errorf("%d frames, %d segments", none.Len(), none.Segments())
	}
	for n, f := range none.All() {
		t.Errorf("a frame %d %d", n, f)
	}
	for n, tag := range none.Tags() {
		t.Errorf("a tag %d %s", n, tag)
	}
	s := stackOf(t, "(1) (a: 2)")
	s.Put(none)
	s.Put(nil)
	checkShown(t, "nil put", s, "(1) (a: 2)")
}

// TestBreak: ranges end where they are broken off, and can be ranged over again.
func TestBreak(t *testing.T) {
	s := stackOf(t, "(1 2) () (a: 3) (b:) (c: 4 5)")
	p, _, _ := stackOf(t, "(9) (q: 1 2) () (a: 3) (b:) (c: 4 5)").Cut(func(tag string) bool { return tag == "q" }, false)
	for about, r := range map[string]ranged{"a stack": s, "a piece": p} {
		frames, tags := r.All(), r.Tags()
		for stop := range 6 {
			last := 0
			for _, f := range frames {
				if last = f; f > stop {
					break
				}
			}
			if last != min(stop+1, 5) {
				t.Errorf("%s: broken off behind %d, the last is %d", about, stop, last)
			}
		}
		for stop, want := range []string{"2a", "3b", "4c", "4c"} {
			last, count := "", 0
			for n, tag := range tags {
				last = string(rune('0'+n)) + tag
				if count == stop {
					break
				}
				count++
			}
			if last != want {
				t.Errorf("%s: broken off behind %d, the last is %s, want %s", about, stop, last, want)
			}
		}
	}
}

// TestKinds: frames and tags of any types, those that can't be compared among them.
func TestKinds(t *testing.T) {
	s := segs.New[[]int, func() int]()
	s.Push([]int{1, 2})
	s.Open(func() int { return 3 })
	s.Push(nil)
	p, tag, ok := s.Cut(func(tag func() int) bool { return tag() == 3 }, true)
	if !ok || tag() != 3 || p.Len() != 1 {
		t.Errorf("%v, %d frames", ok, p.Len())
	}
	if f, ok := s.Pop(); !ok || len(f) != 2 {
		t.Errorf("%v %v", f, ok)
	}
	if f, ok := s.Pop(); ok || f != nil {
		t.Errorf("%v %v", f, ok)
	}
	if tag, _, closed := s.Close(); closed || tag != nil {
		t.Error("the first one can't be closed")
	}
	empty := segs.New[struct{}, struct{}]()
	empty.Push(struct{}{})
	empty.Open(struct{}{})
	if _, ok := empty.Pop(); ok || empty.Len() != 1 || empty.Segments() != 2 {
		t.Errorf("%d frames, %d segments", empty.Len(), empty.Segments())
	}
}
