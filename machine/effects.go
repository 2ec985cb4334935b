package machine

import (
	"slices"

	"effectus/api"
	"effectus/segs"
)

// handle takes the functions for a handler, and a function that is called in a segment with this handler.
func (m *Machine) handle(c *call, number int) int {
	if !m.is(c.top(), api.ObFun) {
		return api.Wrong
	}
	functions := 1 + len(m.code.Handlers[number].Ops)
	if !m.room(size(functions)) || m.tooMany(stays, 1) {
		return api.Memory
	}
	taken := c.last(functions + 1)
	handler := m.thing(api.ObHandler, number, taken[:functions]...)
	m.leave(c, functions+1, stays)
	m.stack.Open(&handler)
	m.stack.Push(m.newCall(taken[functions], api.Cell{}))
	return api.Going
}

// do takes the argument of an operation, and hands it over to the innermost handler that has this operation, with a resumption of all that was to be done up to there.
func (m *Machine) do(c *call, operation int) int {
	wanted := func(tag *api.Cell) bool { return m.clause(tag, operation) > 0 }
	off, tag, found := m.stack.Cut(wanted, true)
	if !found {
		return api.Wrong
	}
	m.stack.Put(off) // as long as it isn't known whether there is room all of it has to be reached
	parts := partsOf(off, m.handlerAt(tag).Shallow)
	fields := fieldsOf(parts) - 1 // without the argument
	if !m.room(size(fields) + size(2)) {
		return api.Memory
	}
	f := m.heap.Get(tag.N, m.clause(tag, operation))
	if !m.is(f, api.ObFun) {
		return api.Wrong
	}
	argument := c.top()
	m.leave(c, 1, stays)
	m.stack.Cut(wanted, true) // now there is room: it is taken off for good
	resumption := m.record(operation, fields, parts)
	m.stack.Push(m.newCall(f, m.thing(api.ObPair, 0, argument, resumption)))
	return api.Going
}

// handlerAt is the handler of a tag.
func (m *Machine) handlerAt(tag *api.Cell) api.Handler { return m.code.Handlers[m.heap.Tag(tag.N)] }

// clause is the field of a tag's handler that has the function for an operation; 0, which is that for the return, if it has none.
func (m *Machine) clause(tag *api.Cell, operation int) int {
	return slices.Index(m.handlerAt(tag).Ops, operation) + 1
}

// resume applies a resumption to a value.
func (m *Machine) resume(c *call, resumption, v api.Cell, rest int) int {
	a := resumption.N
	operation := m.code.Ops[m.heap.Tag(a)]
	if operation.Once && m.heap.Get(a, 0) == truth(true) {
		m.leave(c, 2, rest)
		m.outcome.Op = operation.Name
		return api.Spent
	}
	parts := m.recorded(a)
	if m.tooMany(rest, callsOf(parts)) {
		return api.Memory
	}
	m.leave(c, 2, rest)
	m.heap.Set(a, 0, truth(true))
	for _, p := range parts {
		m.open(p)
	}
	last, _ := m.stack.Top()
	last.put(v)
	return api.Going
}

// open puts a segment on the stack.
func (m *Machine) open(p part) {
	if p.tag == nil {
		m.stack.Put(m.bare)
	} else {
		m.stack.Open(p.tag)
	}
	for _, c := range p.calls {
		m.stack.Push(c)
	}
}

// bareSegment is a segment without a tag and without calls: Open begins none without a tag, but Cut takes it off.
func bareSegment() *piece {
	s := segs.New[*call, *api.Cell]()
	s.Open(nil)
	bare, _, _ := s.Cut(func(*api.Cell) bool { return true }, false)
	return bare
}
