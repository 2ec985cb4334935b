package meaning

// expr is an expression that knows where its names stand. begin is what is done when its evaluation begins, with what is in
// sight there.
type expr interface {
	begin(r *runner, s *sight)
}

type (
	literal  struct{ is value }
	variable struct{ depth int }
	lambda   struct{ body expr }
)

// one evaluates a kid, and goes on with its value.
type one struct {
	kid  expr
	then func(r *runner, s *sight, v value)
}

// two evaluates two kids, and goes on with their values.
type two struct {
	first, second expr
	then          func(r *runner, a, b value)
}

// recursive binds a name to a function that knows it.
type recursive struct{ function, rest expr }

func (e literal) begin(r *runner, s *sight) {
	r.give(e.is)
}

func (e variable) begin(r *runner, s *sight) {
	r.give(s.at(e.depth))
}

func (e lambda) begin(r *runner, s *sight) {
	r.give(function{body: e.body, sight: s})
}

func (e *one) begin(r *runner, s *sight) {
	r.await(e.kid, s, func(v value) { e.then(r, s, v) })
}

func (e *two) begin(r *runner, s *sight) {
	r.await(e.first, s, func(a value) {
		r.await(e.second, s, func(b value) { e.then(r, a, b) })
	})
}

// begin has the name in sight before it stands for anything: no name is asked for while a function is made.
func (e recursive) begin(r *runner, s *sight) {
	inner := s.with(nil)
	r.await(e.function, inner, func(v value) {
		inner.value = v
		r.goOn(e.rest, inner)
	})
}

func (r *runner) apply(f, argument value) {
	switch f := f.(type) {
	case function:
		r.goOn(f.body, f.sight.with(argument))
	case *resumption:
		r.resume(f, argument)
	default:
		r.wrong()
	}
}

func (r *runner) pair(a, b value) {
	r.give(pair{a, b})
}

func (r *runner) cons(a, b value) {
	rest, ok := b.(list)
	if !ok {
		r.wrong()
		return
	}
	r.give(list{&cell{first: a, rest: rest}})
}

// halving is what an EFst and an ESnd do with the value of their kid.
func halving(half func(p pair) value) func(r *runner, s *sight, v value) {
	return func(r *runner, s *sight, v value) {
		p, ok := v.(pair)
		if !ok {
			r.wrong()
			return
		}
		r.give(half(p))
	}
}

// calculating is what an EOp does with the values of its kids.
func calculating(sign string) func(r *runner, a, b value) {
	return func(r *runner, a, b value) {
		x, first := a.(number)
		y, second := b.(number)
		if !first || !second {
			r.wrong()
			return
		}
		r.give(calculated(sign, x, y))
	}
}

func calculated(sign string, a, b number) value {
	switch sign {
	case "+":
		return a + b
	case "-":
		return a - b
	case "*":
		return a * b
	case "<":
		return truth(a < b)
	}
	return truth(a == b)
}

// choosing is what an EIf does with the value of its first kid.
func choosing(yes, no expr) func(r *runner, s *sight, v value) {
	return func(r *runner, s *sight, v value) {
		answer, ok := v.(truth)
		switch {
		case !ok:
			r.wrong()
		case bool(answer):
			r.goOn(yes, s)
		default:
			r.goOn(no, s)
		}
	}
}

// looking is what an ECase does with the value of its first kid.
func looking(empty, full expr) func(r *runner, s *sight, v value) {
	return func(r *runner, s *sight, v value) {
		l, ok := v.(list)
		switch {
		case !ok:
			r.wrong()
		case l.cell == nil:
			r.goOn(empty, s)
		default:
			r.goOn(full, s.with(l.cell.first).with(l.cell.rest))
		}
	}
}
