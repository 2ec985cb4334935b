package meaning

// wait is what is done with a value that is waited for.
type wait func(v value)

// waits is what waits within one another, the innermost first.
type waits struct {
	first wait
	rest  *waits
}

// within waits ahead of others.
func (w wait) within(others *waits) *waits {
	return &waits{first: w, rest: others}
}

// segment is what waits up to a handler. Without one it is the outermost, or was put back by a resumption of a shallow one.
type segment struct {
	handler *handler
	waits   *waits
}

// handler is an EHandle where it is evaluated.
type handler struct {
	of    *handling
	sight *sight
}

func (s segment) ops() opSet {
	if s.handler == nil {
		return opSet{}
	}
	return s.handler.of.ops
}

// stack is all that waits: the innermost segment, and those around it.
type stack struct {
	outer *row
	top   segment
}

func (s *stack) push(w wait) {
	s.top.waits = w.within(s.top.waits)
}

// pop takes off what waits in the innermost segment; nil, if there is nothing.
func (s *stack) pop() wait {
	innermost := s.top.waits
	if innermost == nil {
		return nil
	}
	s.top.waits = innermost.rest
	return innermost.first
}

// open begins a segment.
func (s *stack) open(h *handler) {
	s.trim()
	s.top, s.outer = segment{handler: h}, ahead(s.top, s.outer)
}

// close ends the innermost segment, which is not the outermost one.
func (s *stack) close() {
	s.top, s.outer = s.outer.take()
}

// trim leaves out an innermost segment in which nothing is: without that a loop could pile them up.
func (s *stack) trim() {
	if s.top == (segment{}) && s.outer != nil {
		s.close()
	}
}

// cut takes off all segments up to the innermost one that handles an operation. They come without its handler, if that is a
// shallow one. No handler: there is none.
func (s *stack) cut(op int) (*row, *handler) {
	all := ahead(s.top, s.outer)
	if !all.ops.has(op) {
		return nil, nil
	}
	piece, last, rest := all.split(op)
	s.top, s.outer = rest.take()
	h := last.handler
	if h.of.shallow {
		last.handler = nil
	}
	if last != (segment{}) {
		piece = join(piece, ahead(last, nil))
	}
	return piece, h
}

// put puts segments on that were cut off.
func (s *stack) put(piece *row) {
	s.trim()
	s.top, s.outer = join(piece, ahead(s.top, s.outer)).take()
}
