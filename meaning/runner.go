package meaning

import "effectus/api"

// runner evaluates a program.
type runner struct {
	stack
	fuel, steps int
	next        expr   // what is evaluated next; nil: the value is given back to what waits for it
	sight       *sight // what is in sight of next
	value       value
	over        bool
	outcome     api.Outcome
}

func newRunner(fuel int) *runner {
	return &runner{fuel: fuel}
}

func (r *runner) run(p program) api.Outcome {
	s := noSight()
	for _, d := range p.defs {
		s = r.define(d, s)
	}
	r.goOn(p.main, s)
	for !r.over {
		r.turn()
	}
	r.outcome.Steps = r.steps
	return r.outcome
}

// define binds the name of a def to its function, which takes a step.
func (r *runner) define(d definition, s *sight) *sight {
	r.step()
	inner := s.with(nil)
	knows := s
	if d.rec {
		knows = inner
	}
	inner.value = function{body: d.body, sight: knows}
	return inner
}

// step takes one, or ends the run where none is left.
func (r *runner) step() {
	if r.steps == r.fuel {
		r.end(api.Outcome{Kind: api.Going})
		return
	}
	r.steps++
}

func (r *runner) end(how api.Outcome) {
	r.over, r.outcome = true, how
}

// wrong ends a run that came to what means nothing. A program that has types never does.
func (r *runner) wrong() {
	r.end(api.Outcome{Kind: api.Wrong})
}

func (r *runner) turn() {
	e := r.next
	if e == nil {
		r.giveBack()
		return
	}
	r.step()
	if !r.over {
		e.begin(r, r.sight)
	}
}

// goOn says what is evaluated next.
func (r *runner) goOn(e expr, s *sight) {
	r.next, r.sight = e, s
}

// give says what value the expression has that was evaluated.
func (r *runner) give(v value) {
	r.next, r.value = nil, v
}

// await evaluates an expression for whose value something waits.
func (r *runner) await(e expr, s *sight, then wait) {
	r.push(then)
	r.goOn(e, s)
}

// giveBack hands the value to what waits for it: in the innermost segment, or else at its handler.
func (r *runner) giveBack() {
	if then := r.pop(); then != nil {
		then(r.value)
		return
	}
	if r.outer == nil {
		r.end(api.Outcome{Kind: api.Done, Value: showValue(r.value)})
		return
	}
	h := r.top.handler
	r.close()
	if h != nil {
		r.goOn(h.of.end, h.sight.with(r.value))
	}
}
