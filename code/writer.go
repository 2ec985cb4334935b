package code

import (
	"math"

	"effectus/api"
)

// writer goes on when bytes would be too many, but without writing any: what does not fit comes ahead of what is too long.
type writer struct {
	bytes  []byte
	misfit bool // something can't be written
	long   bool // there would be more than MaxCode bytes
}

func (w *writer) code(c api.Code) {
	w.plain(head)
	w.text(c.Shape, 2, math.MaxUint16)
	w.number(len(c.Ops), 1)
	for _, op := range c.Ops {
		w.text(op.Name, 1, api.MaxName)
		w.flag(op.Once)
	}
	w.number(len(c.Handlers), 2)
	for _, h := range c.Handlers {
		w.handler(h)
	}
	w.number(len(c.Funs), 2)
	for _, f := range c.Funs {
		w.function(f)
	}
}

func (w *writer) handler(h api.Handler) {
	w.flag(h.Shallow)
	w.number(len(h.Ops), 1)
	for _, op := range h.Ops {
		w.number(op, 1)
	}
}

func (w *writer) function(f api.CodeFun) {
	w.number(f.Free, 2)
	w.number(f.Slots, 2)
	w.number(len(f.Ins), 2)
	for _, in := range f.Ins {
		w.instruction(in)
	}
}

func (w *writer) instruction(in api.Ins) {
	if !isOp(in.Op) {
		w.misfit = true
		return
	}
	a, b, n := widths(in.Op)
	w.number(in.Op, 1)
	w.number(in.A, a)
	w.number(in.B, b)
	w.number(in.N, n)
}

// number writes a number in so many bytes; what stands in none has to be 0.
func (w *writer) number(n, size int) {
	if !fits(n, size) {
		w.misfit = true
		return
	}
	if !w.room(size) {
		return
	}
	for ; size > 0; size-- {
		w.bytes = append(w.bytes, byte(n>>(8*(size-1))))
	}
}

func fits(n, size int) bool {
	return size == 8 || n >= 0 && n < 1<<(8*size)
}

func (w *writer) flag(set bool) {
	n := 0
	if set {
		n = 1
	}
	w.number(n, 1)
}

// text writes the length of a text, which is not to be above most, in so many bytes, and the text.
func (w *writer) text(s string, size, most int) {
	if len(s) > most {
		w.misfit = true
		return
	}
	w.number(len(s), size)
	w.plain(s)
}

func (w *writer) plain(s string) {
	if w.room(len(s)) {
		w.bytes = append(w.bytes, s...)
	}
}

// room says whether so many bytes more may be written; once there were too many none may be.
func (w *writer) room(size int) bool {
	w.long = w.long || len(w.bytes)+size > api.MaxCode
	return !w.long
}
