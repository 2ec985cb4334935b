package machine

import (
	"slices"

	"effectus/api"
)

// part is a segment that becomes part of a resumption, or comes out of one.
type part struct {
	tag   *api.Cell // nil: it has none
	calls []*call
}

func (p part) empty() bool { return p.tag == nil && len(p.calls) == 0 }

// partsOf is the segments of a piece that become a resumption; of a shallow handler without its tag.
func partsOf(off *piece, shallow bool) []part {
	parts := make([]part, off.Segments())
	for n, tag := range off.Tags() {
		parts[n].tag = tag
	}
	for n, c := range off.All() {
		parts[n].calls = append(parts[n].calls, c)
	}
	if shallow {
		parts[0].tag = nil
	}
	return slices.DeleteFunc(parts, part.empty)
}

// callsOf is how many calls there are in segments.
func callsOf(parts []part) int {
	calls := 0
	for _, p := range parts {
		calls += len(p.calls)
	}
	return calls
}

// fieldsOf is how many fields a resumption has.
func fieldsOf(parts []part) int {
	fields := 2
	for _, p := range parts {
		fields += 2
		for _, c := range p.calls {
			fields += 4 + c.slots.count + len(c.values)
		}
	}
	return fields
}

// spare is for how many values more there is room in a call that comes out of a resumption: what it goes on with is put there at once.
const spare = 8

// noTag stands in a resumption for the handler of a segment that has no tag.
const noTag = -1

// cursor goes through the fields of a resumption.
type cursor struct {
	m       *Machine
	address int
	field   int // the next one
}

// record makes a resumption, for which there is room.
func (m *Machine) record(operation, fields int, parts []part) api.Cell {
	a, _ := m.heap.Make(api.ObRes, operation, fields, m.roots)
	w := &cursor{m: m, address: a}
	w.write(truth(false), api.Cell{N: len(parts)})
	for _, p := range parts {
		w.writePart(p)
	}
	return api.Cell{Ptr: true, N: a}
}

func (w *cursor) write(cells ...api.Cell) {
	for _, c := range cells {
		w.m.heap.Set(w.address, w.field, c)
		w.field++
	}
}

func (w *cursor) writePart(p part) {
	tag := api.Cell{N: noTag}
	if p.tag != nil {
		tag = *p.tag
	}
	w.write(tag, api.Cell{N: len(p.calls)})
	for _, c := range p.calls {
		w.writeCall(c)
	}
}

func (w *cursor) writeCall(c *call) {
	w.write(c.function, c.argument, api.Cell{N: c.place})
	for i, v := range c.slots.stored {
		w.m.heap.Set(w.address, w.field+i, v)
	}
	w.field += c.slots.count // where nothing was stored the fields are the number 0 already
	w.write(api.Cell{N: len(c.values)})
	w.write(c.values...)
}

// recorded is the segments of a resumption, with calls that are new: what becomes of them does not change the resumption.
func (m *Machine) recorded(a int) []part {
	r := &cursor{m: m, address: a, field: 1}
	parts := make([]part, r.read().N)
	for n := range parts {
		parts[n] = r.readPart()
	}
	return parts
}

func (r *cursor) read() api.Cell {
	c := r.m.heap.Get(r.address, r.field)
	r.field++
	return c
}

func (r *cursor) readPart() part {
	var p part
	if tag := r.read(); tag.Ptr {
		p.tag = &tag
	}
	for range r.read().N {
		p.calls = append(p.calls, r.readCall())
	}
	return p
}

func (r *cursor) readCall() *call {
	function, argument := r.read(), r.read()
	c := r.m.newCall(function, argument)
	c.place = r.read().N
	for i := range c.slots.count {
		c.slots.set(i, r.read())
	}
	values := r.read().N
	c.values = make([]api.Cell, 0, values+spare)
	for range values {
		c.put(r.read())
	}
	return c
}
