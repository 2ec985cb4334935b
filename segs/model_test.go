package segs_test

import (
	"iter"
	"slices"
	"strconv"
	"strings"
	"testing"

	"effectus/segs"
)

type (
	stack = segs.Stack[int, string]
	piece = segs.Piece[int, string]
)

// ranged is what stacks and pieces have in common.
type ranged interface {
	Len() int
	Segments() int
	All() iter.Seq2[int, int]
	Tags() iter.Seq2[int, string]
}

// modelSegment is a segment as the chapter tells it.
type modelSegment struct {
	tag    string
	tagged bool
	frames []int
}

// model is a row of segments as the chapter tells it; no two of them share a list.
type model []modelSegment

func newModel() model { return model{{}} }

func (m model) clone() model {
	out := slices.Clone(m)
	for i := range out {
		out[i].frames = slices.Clone(out[i].frames)
	}
	return out
}

func (m model) push(f int) {
	last := &m[len(m)-1]
	last.frames = append(slices.Clone(last.frames), f)
}

func (m model) top() (int, bool) {
	frames := m[len(m)-1].frames
	if len(frames) == 0 {
		return 0, false
	}
	return frames[len(frames)-1], true
}

func (m model) pop() (int, bool) {
	f, ok := m.top()
	if ok {
		last := &m[len(m)-1]
		last.frames = last.frames[:len(last.frames)-1]
	}
	return f, ok
}

func (m model) close() (model, string, bool, bool) {
	last := m[len(m)-1]
	if len(last.frames) > 0 || len(m) == 1 {
		return m, "", false, false
	}
	return m[:len(m)-1], last.tag, last.tagged, true
}

// cut answers the rest, the piece, the tag, and the tags that were asked about.
func (m model) cut(want string, deep bool) (model, model, string, string) {
	asked := ""
	for i := len(m) - 1; i >= 0; i-- {
		if !m[i].tagged {
			continue
		}
		asked += m[i].tag + "?"
		if strings.Contains(want, m[i].tag) {
			off, tag := m[i:].clone(), m[i].tag
			if !deep {
				off[0].tag, off[0].tagged = "", false
			}
			return m[:i].clone(), off, tag, asked
		}
	}
	return m, nil, "", asked
}

func (m model) put(p model) model { return append(m.clone(), p.clone()...) }

// String shows the segments as the chapter's example does.
func (m model) String() string {
	var out []string
	for _, s := range m {
		text := ""
		if s.tagged {
			text = s.tag + ":"
		}
		for _, f := range s.frames {
			text += " " + strconv.Itoa(f)
		}
		if !s.tagged {
			text = strings.TrimPrefix(text, " ")
		}
		out = append(out, "("+text+")")
	}
	return strings.Join(out, " ")
}

// modelOf reads a stack or a piece by what it tells of itself, and holds that together.
func modelOf(t *testing.T, r ranged) model {
	t.Helper()
	m := make(model, r.Segments())
	ahead, count := 0, 0
	for n, f := range r.All() {
		if n < ahead || n >= len(m) {
			t.Fatalf("a frame of segment %d of %d, behind one of segment %d", n, len(m), ahead)
		}
		m[n].frames = append(m[n].frames, f)
		ahead = n
		count++
	}
	if r.Len() != count {
		t.Fatalf("Len is %d, of %d frames", r.Len(), count)
	}
	ahead = -1
	for n, tag := range r.Tags() {
		if n <= ahead || n >= len(m) {
			t.Fatalf("a tag of segment %d of %d, behind one of segment %d", n, len(m), ahead)
		}
		m[n].tag, m[n].tagged = tag, true
		ahead = n
	}
	return m
}

// checkShown holds a stack or a piece against its segments as text.
func checkShown(t *testing.T, about string, r ranged, want string) {
	t.Helper()
	if got := modelOf(t, r).String(); got != want {
		t.Errorf("%s: %s, want %s", about, got, want)
	}
}

// made is a stack with segments as modelled; those without a tag, but the first, come from cuts that are not deep.
func made(m model) *stack {
	s := segs.New[int, string]()
	for i, part := range m {
		if i > 0 {
			s.Open(part.tag)
		}
		for _, f := range part.frames {
			s.Push(f)
		}
		if i > 0 && !part.tagged {
			p, _, _ := s.Cut(func(string) bool { return true }, false)
			s.Put(p)
		}
	}
	return s
}

// read is the model of which a text is the text.
func read(text string) model {
	var m model
	for part := range strings.SplitSeq(text[1:len(text)-1], ") (") {
		var s modelSegment
		words := part
		if tag, rest, ok := strings.Cut(part, ":"); ok {
			s.tag, s.tagged, words = tag, true, rest
		}
		for word := range strings.FieldsSeq(words) {
			f, _ := strconv.Atoi(word)
			s.frames = append(s.frames, f)
		}
		m = append(m, s)
	}
	return m
}

// stackOf is a stack with the segments that a text shows.
func stackOf(t *testing.T, text string) *stack {
	t.Helper()
	s := made(read(text))
	checkShown(t, "made", s, text)
	return s
}

// wants is a want of one of the tags, which notes what it is asked about.
func wants(tags string, asked *string) func(string) bool {
	return func(tag string) bool {
		*asked += tag + "?"
		return strings.Contains(tags, tag)
	}
}
