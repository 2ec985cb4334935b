package meaning

import (
	"strconv"

	"effectus/api"
)

// value is what an expression comes to.
type value interface {
	show(out *shown)
}

type (
	number int
	truth  bool
	unit   struct{}
	pair   struct{ first, second value }
	list   struct{ cell *cell } // no cell: it is empty
)

// cell is an element of a list, and the list behind it.
type cell struct {
	first value
	rest  list
}

// function is an EFn with the names that it knows.
type function struct {
	body  expr
	sight *sight
}

// shown is what is written of a value. It is full when there is more than may be shown: then nothing is written any more, and
// no list is gone through, for what lists of lists come to may be beyond measure. Pairs are bounded by their type.
type shown struct{ text []byte }

func showValue(v value) string {
	var out shown
	v.show(&out)
	if out.full() {
		return string(out.text[:api.MaxShown]) + "..."
	}
	return string(out.text)
}

func (out *shown) full() bool {
	return len(out.text) > api.MaxShown
}

func (out *shown) add(text string) {
	if !out.full() {
		out.text = append(out.text, text...)
	}
}

func (n number) show(out *shown) {
	out.add(strconv.Itoa(int(n)))
}

func (t truth) show(out *shown) {
	out.add(strconv.FormatBool(bool(t)))
}

func (unit) show(out *shown) {
	out.add("()")
}

func (p pair) show(out *shown) {
	out.add("(")
	p.first.show(out)
	out.add(", ")
	p.second.show(out)
	out.add(")")
}

func (l list) show(out *shown) {
	out.add("[")
	for c := l.cell; c != nil && !out.full(); c = c.rest.cell {
		if c != l.cell {
			out.add(", ")
		}
		c.first.show(out)
	}
	out.add("]")
}

func (function) show(out *shown) {
	out.add("fn")
}

func (*resumption) show(out *shown) {
	out.add("fn")
}
