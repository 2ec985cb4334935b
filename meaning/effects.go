package meaning

import "effectus/api"

type operation struct {
	number int
	name   string
	once   bool
}

// handling is an EHandle.
type handling struct {
	shallow bool
	kid     expr
	end     expr         // of its CReturn
	clauses map[int]expr // by the number of the operation
	ops     opSet        // those that have clauses
}

// resumption is what was to be done from an EDo up to its handler.
type resumption struct {
	op    *operation
	piece *row
	used  bool
}

func (e *handling) begin(r *runner, s *sight) {
	r.open(&handler{of: e, sight: s})
	r.goOn(e.kid, s)
}

// do lets the nearest handler that has the operation take over.
func (r *runner) do(op *operation, v value) {
	piece, h := r.cut(op.number)
	if h == nil {
		r.wrong()
		return
	}
	k := &resumption{op: op, piece: piece}
	r.goOn(h.of.clauses[op.number], h.sight.with(v).with(k))
}

// resume goes on where an operation was done.
func (r *runner) resume(k *resumption, v value) {
	if k.used && k.op.once {
		r.end(api.Outcome{Kind: api.Spent, Op: k.op.name})
		return
	}
	k.used = true
	r.put(k.piece)
	r.give(v)
}
