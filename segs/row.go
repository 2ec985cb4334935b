package segs

import (
	"iter"
	"slices"
)

// frame is a frame, and what is under it in its segment. It is never changed: so segments of stacks and of pieces can have the same ones,
// and to take a segment off, or to put it on again, takes no time for its frames.
type frame[F any] struct {
	it    F
	under *frame[F]
}

// segment is a row of frames, and its tag if it has one.
type segment[F, T any] struct {
	last   *frame[F]
	size   int
	tag    T
	tagged bool
}

// put puts a frame behind the last one.
func (s *segment[F, T]) put(f F) {
	s.last = &frame[F]{f, s.last}
	s.size++
}

// drop takes the last frame off; there is one.
func (s *segment[F, T]) drop() {
	s.last = s.last.under
	s.size--
}

// untag takes the tag off.
func (s *segment[F, T]) untag() {
	var none T
	s.tag, s.tagged = none, false
}

// frames is the frames, the outermost first.
func (s *segment[F, T]) frames() []F {
	list := make([]F, s.size)
	for i, f := s.size-1, s.last; f != nil; i, f = i-1, f.under {
		list[i] = f.it
	}
	return list
}

// row is a row of segments: the innermost one stands by itself, so that there always is one.
type row[F, T any] struct {
	outer []segment[F, T] // the outermost first
	inner segment[F, T]
	count int // of all frames
}

// at is the segment with a number.
func (r *row[F, T]) at(n int) *segment[F, T] {
	if n == len(r.outer) {
		return &r.inner
	}
	return &r.outer[n]
}

// find is the number of the innermost segment whose tag is wanted; 0, if there is none: the first one has no tag.
func (r *row[F, T]) find(want func(T) bool) int {
	if want == nil {
		return 0
	}
	for n := len(r.outer); n > 0; n-- {
		if s := r.at(n); s.tagged && want(s.tag) {
			return n
		}
	}
	return 0
}

// split is the first n segments, and those behind them, these in memory of their own: what becomes of the first ones doesn't change them.
// Where they stood is cleared, so that the first ones don't keep what they had.
func (r *row[F, T]) split(n int) (ahead, behind row[F, T]) {
	behind.outer = append(behind.outer, r.outer[n:]...)
	behind.inner = r.inner
	for s := range behind.Segments() {
		behind.count += behind.at(s).size
	}
	ahead.inner = r.outer[n-1]
	ahead.outer = slices.Delete(r.outer, n-1, len(r.outer))
	ahead.count = r.count - behind.count
	return ahead, behind
}

// Len is how many frames there are.
func (r *row[F, T]) Len() int { return r.count }

// Segments is how many segments there are.
func (r *row[F, T]) Segments() int { return len(r.outer) + 1 }

// All ranges over all frames, the outermost first, each with the number of its segment.
func (r *row[F, T]) All() iter.Seq2[int, F] {
	return func(yield func(int, F) bool) {
		for n, s := range r.all() {
			for _, f := range s.frames() {
				if !yield(n, f) {
					return
				}
			}
		}
	}
}

// Tags ranges over the tags of the segments that have one, the outermost first, each with the number of its segment.
func (r *row[F, T]) Tags() iter.Seq2[int, T] {
	return func(yield func(int, T) bool) {
		for n, s := range r.all() {
			if s.tagged && !yield(n, s.tag) {
				return
			}
		}
	}
}

// all ranges over the segments with their numbers.
func (r row[F, T]) all() iter.Seq2[int, *segment[F, T]] {
	return func(yield func(int, *segment[F, T]) bool) {
		for n := range r.Segments() {
			if !yield(n, r.at(n)) {
				return
			}
		}
	}
}
