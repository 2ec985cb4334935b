package machine

import "effectus/api"

// is says whether a value is a thing of a kind.
func (m *Machine) is(v api.Cell, kind int) bool { return v.Ptr && m.heap.Kind(v.N) == kind }

// room says whether new things that take so many cells have room beside all that is reached.
// It is asked when an instruction has done nothing yet: then all that it works with is reached from the calls, and what it makes behind this moves nothing any more.
func (m *Machine) room(cells int) bool {
	return m.heap.Used()+cells <= m.cells || m.heap.Collect(m.roots)+cells <= m.cells
}

// size is how many cells a thing takes.
func size(fields int) int { return fields + 1 }

// thing makes a thing with these fields, for which there is room.
func (m *Machine) thing(kind, tag int, fields ...api.Cell) api.Cell {
	a, _ := m.heap.Make(kind, tag, len(fields), m.roots)
	for i, f := range fields {
		m.heap.Set(a, i, f)
	}
	return api.Cell{Ptr: true, N: a}
}

// build takes the last n values and puts a thing that has them.
func (m *Machine) build(c *call, kind, tag, n int) int {
	if !m.room(size(n)) {
		return api.Memory
	}
	c.replace(n, m.thing(kind, tag, c.last(n)...))
	return api.Going
}

// field takes a thing of a kind and puts one of its fields.
func (m *Machine) field(c *call, kind, i int) int {
	v := c.top()
	if !m.is(v, kind) {
		return api.Wrong
	}
	c.replace(1, m.heap.Get(v.N, i))
	return api.Going
}

// empty takes a list and puts whether it is empty.
func (m *Machine) empty(c *call) int {
	switch v := c.top(); {
	case m.is(v, api.ObCons):
		c.replace(1, truth(false))
	case v == api.Cell{}:
		c.replace(1, truth(true))
	default:
		return api.Wrong
	}
	return api.Going
}

// patch takes a value, which a field of the function in a slot is then.
func (m *Machine) patch(c *call, slot, field int) int {
	f := c.slots.get(slot)
	if !m.is(f, api.ObFun) || field >= m.heap.Len(f.N) {
		return api.Wrong
	}
	m.heap.Set(f.N, field, c.top())
	c.drop(1)
	return api.Going
}
