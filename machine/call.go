package machine

import "effectus/api"

// call is a call of a function that is not over.
type call struct {
	function api.Cell // the number 0 for function 0
	number   int      // the function's, told here, too: it is asked for while cells are on their way to other places
	argument api.Cell
	place    int // of the instruction that comes next
	slots    slots
	values   []api.Cell // the last one is the top
}

// newCall is a call at its beginning.
func (m *Machine) newCall(function, argument api.Cell) *call {
	number := 0
	if function.Ptr {
		number = m.heap.Tag(function.N)
	}
	return &call{function: function, number: number, argument: argument, slots: slots{count: m.code.Funs[number].Slots}}
}

func (c *call) put(v api.Cell) { c.values = append(c.values, v) }

// last is the last n values, in their order; they are there as long as nothing is put.
func (c *call) last(n int) []api.Cell { return c.values[len(c.values)-n:] }

// top is the last value.
func (c *call) top() api.Cell { return c.last(1)[0] }

// drop takes the last n values.
func (c *call) drop(n int) { c.values = c.values[:len(c.values)-n] }

// replace takes the last n values and puts one.
func (c *call) replace(n int, v api.Cell) {
	c.drop(n)
	c.put(v)
}

// cells ranges over the places of all cells of the call; false, if yield wanted no more.
func (c *call) cells(yield func(*api.Cell) bool) bool {
	if !yield(&c.function) || !yield(&c.argument) || !c.slots.cells(yield) {
		return false
	}
	return each(c.values, yield)
}

// each ranges over the places of a list; false, if yield wanted no more.
func each(list []api.Cell, yield func(*api.Cell) bool) bool {
	for i := range list {
		if !yield(&list[i]) {
			return false
		}
	}
	return true
}
