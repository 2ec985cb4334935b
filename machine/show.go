package machine

import (
	"strconv"

	"effectus/api"
)

// shown is what is written of a value. It is full when there is more than may be shown: then nothing is gone through any more,
// for what lists of lists come to may be beyond measure.
type shown struct {
	m     *Machine
	shape string
	text  []byte
}

func (m *Machine) show(v api.Cell) string {
	out := &shown{m: m, shape: m.code.Shape}
	out.value(v, 0)
	if out.full() {
		return string(out.text[:api.MaxShown]) + "..."
	}
	return string(out.text)
}

func (out *shown) full() bool { return len(out.text) > api.MaxShown }

func (out *shown) add(text string) { out.text = append(out.text, text...) }

// value writes a value by the shape that stands at a place.
func (out *shown) value(v api.Cell, at int) {
	if out.full() {
		return
	}
	switch out.shape[at] {
	case 'i':
		out.number(v)
	case 'b':
		out.add(strconv.FormatBool(v == truth(true)))
	case 'u':
		out.add("()")
	case 'f':
		out.add("fn")
	case 'l':
		out.list(v, at+1)
	case 'p':
		out.pair(v, at+1)
	default:
		out.add("?")
	}
}

func (out *shown) number(v api.Cell) {
	if v.Ptr {
		out.add("?")
		return
	}
	out.add(strconv.Itoa(v.N))
}

// list writes a list of elements whose shape stands at a place.
func (out *shown) list(v api.Cell, at int) {
	if v != (api.Cell{}) && !out.m.is(v, api.ObCons) {
		out.add("?")
		return
	}
	out.add("[")
	for first := true; out.m.is(v, api.ObCons) && !out.full(); first = false {
		if !first {
			out.add(", ")
		}
		out.value(out.m.heap.Get(v.N, 0), at)
		v = out.m.heap.Get(v.N, 1)
	}
	out.add("]")
}

// pair writes a pair whose first shape stands at a place.
func (out *shown) pair(v api.Cell, at int) {
	if !out.m.is(v, api.ObPair) {
		out.add("?")
		return
	}
	out.add("(")
	out.value(out.m.heap.Get(v.N, 0), at)
	if out.full() {
		return
	}
	out.add(", ")
	out.value(out.m.heap.Get(v.N, 1), out.behind(at))
	out.add(")")
}

// behind is the place behind the shape that stands at a place.
func (out *shown) behind(at int) int {
	for wanted := 1; wanted > 0; at++ {
		switch out.shape[at] {
		case 'l':
		case 'p':
			wanted++
		default:
			wanted--
		}
	}
	return at
}
