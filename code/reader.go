package code

import (
	"math"
	"strconv"
	"strings"

	"effectus/api"
)

// broken is the error that is met in bytes which are no code.
type broken struct{ fault api.Fault }

func (b broken) Error() string {
	return "fault " + strconv.Itoa(int(b.fault.Kind)) + " at byte " + strconv.Itoa(b.fault.At)
}

func brokenAt(kind api.Errno, at int) error {
	return broken{api.Fault{Kind: kind, At: at}}
}

// reader reads bytes from the left; what it can't go on with it answers as an error.
type reader struct {
	bytes string
	at    int
}

func (r *reader) code() (c api.Code, err error) {
	if err = r.head(); err != nil {
		return c, err
	}
	if c.Shape, err = r.text(2, math.MaxUint16); err != nil {
		return c, err
	}
	if c.Ops, err = list(r, 1, r.operation); err != nil {
		return c, err
	}
	if c.Handlers, err = list(r, 2, r.handler); err != nil {
		return c, err
	}
	if c.Funs, err = list(r, 2, r.function); err != nil {
		return c, err
	}
	return c, r.end()
}

func (r *reader) head() error {
	for at := range len(head) {
		b, err := r.take(1)
		if err != nil {
			return err
		}
		if b != head[at:at+1] {
			return brokenAt(api.ErrHead, at)
		}
	}
	return nil
}

func (r *reader) operation() (op api.CodeOp, err error) {
	if op.Name, err = r.text(1, api.MaxName); err != nil {
		return op, err
	}
	op.Once, err = r.flag()
	return op, err
}

func (r *reader) handler() (h api.Handler, err error) {
	if h.Shallow, err = r.flag(); err != nil {
		return h, err
	}
	h.Ops, err = list(r, 1, func() (int, error) { return r.number(1) })
	return h, err
}

func (r *reader) function() (f api.CodeFun, err error) {
	if f.Free, err = r.number(2); err != nil {
		return f, err
	}
	if f.Slots, err = r.number(2); err != nil {
		return f, err
	}
	f.Ins, err = list(r, 2, r.instruction)
	return f, err
}

func (r *reader) instruction() (in api.Ins, err error) {
	at := r.at
	if in.Op, err = r.number(1); err != nil {
		return in, err
	}
	if !isOp(in.Op) {
		return in, brokenAt(api.ErrOp, at)
	}
	a, b, n := widths(in.Op)
	if in.A, err = r.number(a); err != nil {
		return in, err
	}
	if in.B, err = r.number(b); err != nil {
		return in, err
	}
	in.N, err = r.number(n)
	return in, err
}

// end says that nothing may be left.
func (r *reader) end() error {
	if r.left() > 0 {
		return brokenAt(api.ErrEnd, r.at)
	}
	return nil
}

// list reads how many there are, in so many bytes, and each of them.
func list[T any](r *reader, size int, each func() (T, error)) ([]T, error) {
	n, err := r.number(size)
	if err != nil || n == 0 {
		return nil, err
	}
	all := make([]T, 0, min(n, r.left())) // each takes a byte at least: bytes that end early don't ask for more than they have
	for range n {
		one, err := each()
		if err != nil {
			return nil, err
		}
		all = append(all, one)
	}
	return all, nil
}

// text reads the length of a text, which is not to be above most, in so many bytes, and the text.
func (r *reader) text(size, most int) (string, error) {
	at := r.at
	n, err := r.number(size)
	if err != nil {
		return "", err
	}
	if n > most {
		return "", brokenAt(api.ErrNumber, at)
	}
	s, err := r.take(n)
	return strings.Clone(s), err // an answer shares no memory with the bytes
}

func (r *reader) flag() (bool, error) {
	at := r.at
	n, err := r.number(1)
	if err != nil {
		return false, err
	}
	if n > 1 {
		return false, brokenAt(api.ErrNumber, at)
	}
	return n == 1, nil
}

// number reads a number of so many bytes; what stands in none is 0.
func (r *reader) number(size int) (int, error) {
	s, err := r.take(size)
	n := 0
	for i := range len(s) {
		n = n<<8 | int(s[i])
	}
	return n, err
}

func (r *reader) take(size int) (string, error) {
	if size > r.left() {
		return "", brokenAt(api.ErrEnd, len(r.bytes))
	}
	r.at += size
	return r.bytes[r.at-size : r.at], nil
}

func (r *reader) left() int { return len(r.bytes) - r.at }
