package machine

import "effectus/api"

// What becomes of a call that calls another one.
const (
	stays = 1 // it waits for the other one's value
	over  = 0 // it is over before
)

// apply takes a function or a resumption, and an argument, to which it is applied; rest is what becomes of the call that does so.
func (m *Machine) apply(c *call, rest int) int {
	f, argument := c.last(2)[0], c.last(2)[1]
	switch {
	case m.is(f, api.ObFun):
		return m.enter(c, f, argument, rest)
	case m.is(f, api.ObRes):
		return m.resume(c, f, argument, rest)
	}
	return api.Wrong
}

// enter is a new call of a function.
func (m *Machine) enter(c *call, f, argument api.Cell, rest int) int {
	if m.tooMany(rest, 1) {
		return api.Memory
	}
	m.leave(c, 2, rest)
	m.stack.Push(m.newCall(f, argument))
	return api.Going
}

// tooMany says whether there would be too many calls with so many new ones; rest is what becomes of the innermost one.
func (m *Machine) tooMany(rest, calls int) bool {
	return m.stack.Len()-1+rest+calls > api.MaxCalls
}

// leave takes the last n values of the innermost call, which then goes on behind its instruction, or is over.
func (m *Machine) leave(c *call, n, rest int) {
	if rest == over {
		m.stack.Pop()
		return
	}
	c.drop(n)
	c.place++
}

// giveBack says that the innermost call is over, and what its value is.
func (m *Machine) giveBack(v api.Cell) int {
	ended, _ := m.stack.Pop()
	for {
		if c, ok := m.stack.Top(); ok {
			c.put(v)
			return api.Going
		}
		tag, tagged, closed := m.stack.Close()
		if !closed {
			m.outcome.Value = m.show(v)
			return api.Done
		}
		if tagged {
			return m.returned(tag, v, ended)
		}
	}
}

// returned calls the function for the return of a handler whose segment is over.
func (m *Machine) returned(tag *api.Cell, v api.Cell, ended *call) int {
	f := m.heap.Get(tag.N, 0)
	if !m.is(f, api.ObFun) {
		// Nothing was done: all that a segment between these two can have had is that it was there.
		m.stack.Open(tag)
		m.stack.Push(ended)
		return api.Wrong
	}
	m.stack.Push(m.newCall(f, v))
	return api.Going
}
