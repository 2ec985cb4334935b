package infer_test

import "effectus/api"

// A program is run here as far as it takes to see whether it goes wrong: does what nothing handles, or asks of a value what it has not.

type scope struct {
	name  string
	value any
	outer *scope
}

type (
	pairValue struct{ first, second any }
	function  func(argument any) outcome
)

// outcome is a value, or (op) what is asked for, and how it goes on with an answer.
type outcome struct {
	value any
	op    string
	next  func(answer any) outcome
}

type (
	goesWrong struct{ why string }
	noFuel    struct{}
	spent     struct{}
)

type runner struct {
	fuel, done int
	once       map[string]bool
}

// run tells why a program goes wrong (nothing, if it does not), and how many operations it did.
func run(n api.Node, fuel int) (why string, done int) {
	r := &runner{fuel: fuel, once: map[string]bool{}}
	defer func() {
		done = r.done
		switch told := recover().(type) {
		case nil, noFuel, spent:
		case goesWrong:
			why = told.why
		default:
			panic(told)
		}
	}()
	for _, op := range n.Kids[:n.N] {
		r.once[op.Name] = op.N == 1
	}
	var s *scope
	rest := n.Kids[n.N:]
	for _, def := range rest[:len(rest)-1] {
		s = r.bind(def, s, nil)
	}
	if end := r.eval(rest[len(rest)-1], s); end.op != "" {
		panic(goesWrong{"nothing handles " + end.op})
	}
	return "", 0
}

func (r *runner) bind(n api.Node, s *scope, value any) *scope {
	inner := &scope{name: n.Name, value: value, outer: s}
	if n.Kind == api.DLet || n.N == 1 {
		around := s
		if n.N == 1 {
			around = inner
		}
		inner.value = r.eval(n.Kids[0], around).value
	}
	return inner
}

// then goes on with a value when there is one.
func (o outcome) then(goOn func(value any) outcome) outcome {
	if o.op == "" {
		return goOn(o.value)
	}
	next := o.next
	o.next = func(answer any) outcome { return next(answer).then(goOn) }
	return o
}

// want is a value of a kind; no other may stand there in a program that has types.
func want[T any](value any) T {
	v, ok := value.(T)
	if !ok {
		panic(goesWrong{"a value is of another kind"})
	}
	return v
}

func (r *runner) two(n api.Node, s *scope, combine func(a, b any) outcome) outcome {
	return r.eval(n.Kids[0], s).then(func(a any) outcome {
		return r.eval(n.Kids[1], s).then(func(b any) outcome { return combine(a, b) })
	})
}

func (r *runner) eval(n api.Node, s *scope) outcome {
	if r.fuel--; r.fuel < 0 {
		panic(noFuel{})
	}
	switch n.Kind {
	case api.EInt:
		return outcome{value: n.N}
	case api.EBool:
		return outcome{value: n.N == 1}
	case api.EUnit:
		return outcome{value: struct{}{}}
	case api.ENil:
		return outcome{value: []any{}}
	case api.EVar:
		for ; s != nil; s = s.outer {
			if s.name == n.Name {
				return outcome{value: s.value}
			}
		}
		panic(goesWrong{"there is no " + n.Name})
	case api.EFn:
		return outcome{value: function(func(argument any) outcome { return r.eval(n.Kids[0], &scope{n.Name, argument, s}) })}
	case api.EApp:
		return r.two(n, s, func(f, x any) outcome { return want[function](f)(x) })
	case api.ELet:
		if n.N == 1 {
			return r.eval(n.Kids[1], r.bind(n, s, nil))
		}
		return r.eval(n.Kids[0], s).then(func(v any) outcome { return r.eval(n.Kids[1], r.bind(n, s, v)) })
	case api.ESeq:
		return r.two(n, s, func(a, b any) outcome { return outcome{value: b} })
	case api.EIf:
		return r.eval(n.Kids[0], s).then(func(v any) outcome {
			if want[bool](v) {
				return r.eval(n.Kids[1], s)
			}
			return r.eval(n.Kids[2], s)
		})
	case api.EPair:
		return r.two(n, s, func(a, b any) outcome { return outcome{value: pairValue{a, b}} })
	case api.EFst:
		return r.eval(n.Kids[0], s).then(func(v any) outcome { return outcome{value: want[pairValue](v).first} })
	case api.ESnd:
		return r.eval(n.Kids[0], s).then(func(v any) outcome { return outcome{value: want[pairValue](v).second} })
	case api.ECons:
		return r.two(n, s, func(a, b any) outcome { return outcome{value: append([]any{a}, want[[]any](b)...)} })
	case api.ECase:
		return r.eval(n.Kids[0], s).then(func(v any) outcome {
			list := want[[]any](v)
			if len(list) == 0 {
				return r.eval(n.Kids[1], s)
			}
			return r.eval(n.Kids[4], &scope{n.Kids[3].Name, list[1:], &scope{n.Kids[2].Name, list[0], s}})
		})
	case api.EOp:
		return r.two(n, s, func(a, b any) outcome { return outcome{value: sign(n.Name, want[int](a), want[int](b))} })
	case api.EDo:
		return r.eval(n.Kids[0], s).then(func(v any) outcome {
			r.done++
			return outcome{value: v, op: n.Name, next: func(answer any) outcome { return outcome{value: answer} }}
		})
	}
	return r.handle(n, s, r.eval(n.Kids[0], s))
}

func sign(name string, a, b int) any {
	switch name {
	case "+":
		return a + b
	case "-":
		return a - b
	case "*":
		return a * b
	case "<":
		return a < b
	}
	return a == b
}

func (r *runner) handle(n api.Node, s *scope, o outcome) outcome {
	if o.op == "" {
		return r.eval(n.Kids[1].Kids[0], &scope{n.Kids[1].Name, o.value, s})
	}
	next, used := o.next, 0
	for _, clause := range n.Kids[2:] {
		if clause.Name != o.op {
			continue
		}
		k := function(func(answer any) outcome {
			if used++; used > 1 && r.once[o.op] {
				panic(spent{})
			}
			if n.N == 1 {
				return next(answer)
			}
			return r.handle(n, s, next(answer))
		})
		return r.eval(clause.Kids[2], &scope{clause.Kids[1].Name, k, &scope{clause.Kids[0].Name, o.value, s}})
	}
	o.next = func(answer any) outcome { return r.handle(n, s, next(answer)) }
	return o
}
