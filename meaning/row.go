package meaning

import (
	"slices"

	"effectus/api"
)

// mostOps bounds how many operations a text declares, by the shortest way in which that can be written.
const mostOps = api.MaxText / len("op once a:int=>int ")

// opSet is a set of operations, by their numbers.
type opSet [mostOps/64 + 1]uint64

func (set *opSet) add(op int) {
	set[op/64] |= 1 << (op % 64)
}

func (set *opSet) addAll(others opSet) {
	for i, bits := range others {
		set[i] |= bits
	}
}

func (set *opSet) has(op int) bool {
	return set[op/64]>>(op%64)&1 == 1
}

// row is some segments, the innermost first; nil is none of them. In the place of a segment a whole row may stand: so what was
// cut off is put back in one move, however long it is, and is passed over in one move where none of it handles an operation.
// A row is never changed, so that it can be put back again and again.
type row struct {
	first segment
	inner *row // if there is one: it stands in the place of first
	rest  *row
	ops   opSet // those that some handler of the row has
}

// ahead is a segment and a row behind it.
func ahead(first segment, rest *row) *row {
	return (&row{first: first}).before(rest)
}

// join is a row and another one behind it.
func join(t, rest *row) *row {
	switch {
	case t == nil:
		return rest
	case rest == nil:
		return t
	case t.rest == nil:
		return t.before(rest)
	}
	return (&row{inner: t}).before(rest)
}

// before is what stands first in a row, with another row behind it.
func (t *row) before(rest *row) *row {
	n := &row{first: t.first, inner: t.inner, rest: rest, ops: t.own()}
	if rest != nil {
		n.ops.addAll(rest.ops)
	}
	return n
}

// own answers the operations that what stands first handles.
func (t *row) own() opSet {
	if t.inner != nil {
		return t.inner.ops
	}
	return t.first.ops()
}

// take answers the first segment, and those behind it.
func (t *row) take() (segment, *row) {
	for t.inner != nil {
		t = t.inner.before(join(t.inner.rest, t.rest))
	}
	return t.first, t.rest
}

// split answers the segments ahead of the first one that handles an operation, that one, and those behind it. There is one.
func (t *row) split(op int) (*row, segment, *row) {
	var passed, behind []*row
	for {
		if own := t.own(); !own.has(op) {
			passed = append(passed, t)
			t = t.rest
		} else if t.inner != nil {
			behind = append(behind, t.rest)
			t = t.inner
		} else {
			break
		}
	}
	var front *row
	for _, p := range slices.Backward(passed) {
		front = p.before(front)
	}
	back := t.rest
	for _, b := range slices.Backward(behind) {
		back = join(back, b)
	}
	return front, t.first, back
}
