package unify

// Row is a bag of operations, and perhaps a variable.
type Row struct {
	ops  bag
	rest *Rest // nil: none
}

// Rest is a row variable.
type Rest struct {
	becomes *Row // nil: nothing yet
	round   int  // the last one in which it was marked
}

// NewRow answers a row of operations and a new variable.
func NewRow(ops ...string) Row {
	return Row{ops: bagOf(ops), rest: &Rest{}}
}

// OnlyRow answers a row of operations without a variable.
func OnlyRow(ops ...string) Row {
	return Row{ops: bagOf(ops)}
}

// With answers a row with more operations.
func (r Row) With(ops ...string) Row {
	return Row{ops: r.ops.join(bagOf(ops)), rest: r.rest}
}

// Opened answers a row that has a variable: a new one, if it has none.
func (r Row) Opened() Row {
	r = r.whole()
	if r.rest == nil {
		r.rest = &Rest{}
	}
	return r
}

// whole answers a row with what its variable stands for joined to it.
func (r Row) whole() Row {
	if r.rest == nil || r.rest.becomes == nil {
		return r
	}
	behind := r.rest.becomes.whole()
	r.rest.becomes = &behind // the way there is short from now on
	return Row{ops: r.ops.join(behind.ops), rest: behind.rest}
}

// SameRow makes two rows the same, if they can be.
func SameRow(a, b Row) bool {
	a, b = a.whole(), b.whole()
	forA, forB := b.ops.lacking(a.ops), a.ops.lacking(b.ops)
	if a.rest == b.rest {
		return len(forA) == 0 && len(forB) == 0
	}
	var behind *Rest
	if a.rest != nil && b.rest != nil {
		behind = &Rest{}
	}
	return a.rest.take(forA, behind) && b.rest.take(forB, behind)
}

// take makes a row's variable stand for operations and what is behind them; a row without one can take no operations.
func (v *Rest) take(ops bag, behind *Rest) bool {
	if v == nil {
		return len(ops) == 0
	}
	v.becomes = &Row{ops: ops, rest: behind}
	return true
}

// Mark marks the variable of a row.
func (r Row) Mark(round int) {
	if rest := r.whole().rest; rest != nil {
		rest.round = round
	}
}

// Mark marks a row variable, or that of what it has become.
func (v *Rest) Mark(round int) {
	Row{rest: v}.Mark(round)
}

// Marked tells whether a row variable that stands for nothing yet was marked.
func (v *Rest) Marked(round int) bool {
	return v.round == round
}
