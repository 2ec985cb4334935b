package trees_test

import (
	"slices"
	"strconv"
	"strings"

	"effectus/api"
)

// A player evaluates a core term or a pure one, by chapters 5, 6 and 8: each term takes a step when its evaluation begins.
// What waits is a row of frames, the innermost last; frames are never changed.
type player struct {
	once        []bool // of each operation
	fuel, steps int
	frames      []frame
	waiting     int // the most frames that there were at once
	over        bool
	outcome     api.Outcome
}

// frame is a term that waits for a kid's value; a THandle's is in sight of what is done in its first kid.
type frame struct {
	of     api.Term
	known  *known
	values []any // of the kids that were evaluated
}

// known is what the variables in sight stand for.
type known struct {
	variable int
	value    any
	rest     *known
}

type (
	unit    struct{}
	pair    struct{ first, second any }
	list    struct{ cell *pair } // no cell: it is empty
	closure struct {
		fn    api.Term
		known *known
		own   int // above 0: the variable by which it knows itself
	}
	resumption struct {
		op     int
		name   string
		frames []frame
		used   *int
	}
	come  struct{ value any } // a computation that has come to a value
	asked struct {            // a computation that asks
		number int
		value  any
		rest   any
	}
	single struct { // a function that can be applied once
		name     string
		function any
		used     *int
	}
)

func (k *known) with(variable int, value any) *known {
	if variable == 0 {
		return k
	}
	return &known{variable, value, k}
}

// find panics, if nothing is found: that is Wrong.
func (k *known) find(variable int) any {
	for k.variable != variable {
		k = k.rest
	}
	return k.value
}

// play answers how a term's run ends, and how much waited at once.
func play(t api.Term, once []bool, fuel int) (outcome api.Outcome, waiting int) {
	p := &player{once: once, fuel: fuel}
	defer func() {
		if recover() != nil {
			outcome, waiting = api.Outcome{Kind: api.Wrong, Steps: p.steps}, p.waiting
		}
	}()
	value, known, next := any(nil), (*known)(nil), &t
	for !p.over {
		switch {
		case next != nil:
			value, known, next = p.begin(*next, known)
		case len(p.frames) == 0:
			var out strings.Builder
			show(&out, value)
			p.end(api.Done, "", cut(out.String()))
		default:
			last := p.frames[len(p.frames)-1]
			p.frames = p.frames[:len(p.frames)-1]
			value, known, next = p.goOn(last, value)
		}
	}
	p.outcome.Steps = p.steps
	return p.outcome, p.waiting
}

func (p *player) end(kind int, op, value string) (any, *known, *api.Term) {
	p.over = true
	p.outcome = api.Outcome{Kind: kind, Op: op, Value: value}
	return nil, nil, nil
}

func (p *player) push(frames ...frame) {
	p.frames = append(p.frames, frames...)
	p.waiting = max(p.waiting, len(p.frames))
}

// begin answers the value of a term, or what is evaluated next.
func (p *player) begin(t api.Term, k *known) (any, *known, *api.Term) {
	if p.steps == p.fuel {
		return p.end(api.Going, "", "")
	}
	p.steps++
	switch t.Op {
	case api.TInt:
		return t.N, nil, nil
	case api.TBool:
		return t.N == 1, nil, nil
	case api.TUnit:
		return unit{}, nil, nil
	case api.TNil:
		return list{}, nil, nil
	case api.TFn:
		return closure{fn: t, known: k}, nil, nil
	case api.TVar:
		return k.find(t.N), nil, nil
	}
	p.push(frame{of: t, known: k})
	return nil, k, &t.Kids[0]
}

// goOn goes on with a frame whose kid has come to a value.
func (p *player) goOn(f frame, value any) (any, *known, *api.Term) {
	t, k, values := f.of, f.known, append(slices.Clone(f.values), value)
	switch t.Op {
	case api.TApp, api.TPair, api.TCons, api.TOp, api.TAct:
		if len(values) < len(t.Kids) {
			p.push(frame{t, k, values})
			return nil, k, &t.Kids[len(values)]
		}
		return p.all(t, values)
	case api.TLet, api.THandle:
		return nil, k.with(t.N, value), &t.Kids[1]
	case api.TRec:
		own := value.(closure)
		own.own = t.N
		return nil, k.with(t.N, own), &t.Kids[1]
	case api.TIf:
		if value.(bool) {
			return nil, k, &t.Kids[1]
		}
		return nil, k, &t.Kids[2]
	case api.TFst:
		return value.(pair).first, nil, nil
	case api.TSnd:
		return value.(pair).second, nil, nil
	case api.TCase:
		cell := value.(list).cell
		if cell == nil {
			return nil, k, &t.Kids[1]
		}
		return nil, k.with(t.Ns[0], cell.first).with(t.Ns[1], cell.second), &t.Kids[2]
	case api.TDo:
		return p.do(t, value)
	case api.TRet:
		return come{value}, nil, nil
	case api.TOnce:
		return single{t.S, function(value), new(int)}, nil, nil
	}
	return look(t, k, value) // a TOn
}

func look(t api.Term, k *known, computation any) (any, *known, *api.Term) {
	if c, ok := computation.(come); ok {
		return nil, k.with(t.Ns[0], c.value), &t.Kids[1]
	}
	a := computation.(asked)
	return nil, k.with(t.Ns[1], a.number).with(t.Ns[2], a.value).with(t.Ns[3], a.rest), &t.Kids[2]
}

// function panics of what is none.
func function(value any) any {
	switch value.(type) {
	case closure, resumption, single:
		return value
	}
	panic("no function")
}

// all does what a term is there for that has evaluated all its kids.
func (p *player) all(t api.Term, values []any) (any, *known, *api.Term) {
	a, b := values[0], values[1]
	switch t.Op {
	case api.TPair:
		return pair{a, b}, nil, nil
	case api.TCons:
		return list{&pair{a, b.(list)}}, nil, nil
	case api.TApp:
		return p.apply(a, b)
	case api.TAct:
		return asked{a.(int), b, function(values[2])}, nil, nil
	}
	return sign(t.S, a.(int), b.(int)), nil, nil
}

func sign(s string, x, y int) any {
	switch s {
	case "+":
		return x + y
	case "-":
		return x - y
	case "*":
		return x * y
	case "<":
		return x < y
	case "==":
		return x == y
	}
	panic("no sign")
}

func (p *player) apply(f, argument any) (any, *known, *api.Term) {
	switch f := f.(type) {
	case single:
		if *f.used++; *f.used > 1 {
			return p.end(api.Spent, f.name, "")
		}
		return p.apply(f.function, argument)
	case resumption:
		if *f.used++; *f.used > 1 && p.once[f.op] {
			return p.end(api.Spent, f.name, "")
		}
		p.push(f.frames...)
		return argument, nil, nil
	}
	c := f.(closure)
	k := c.known
	if c.own > 0 {
		k = k.with(c.own, c)
	}
	return nil, k.with(c.fn.N, argument), &c.fn.Kids[0]
}

// do lets the nearest THandle that has the operation take over.
func (p *player) do(t api.Term, value any) (any, *known, *api.Term) {
	for i, f := range slices.Backward(p.frames) {
		if f.of.Op != api.THandle {
			continue
		}
		for clause, kid := range f.of.Kids[2:] {
			numbers := f.of.Ns[3*clause:]
			if numbers[0] == t.N {
				k := resumption{op: t.N, name: t.S, frames: slices.Clone(p.frames[i+f.of.Of:]), used: new(int)}
				p.frames = slices.Clone(p.frames[:i])
				return nil, f.known.with(numbers[1], value).with(numbers[2], k), &kid
			}
		}
	}
	panic("nothing handles it")
}

func cut(text string) string {
	if len(text) > api.MaxShown {
		return text[:api.MaxShown] + "..."
	}
	return text
}

// show writes more than may be shown, but of a value without measure not all; it panics of a computation.
func show(out *strings.Builder, value any) {
	if out.Len() > api.MaxShown {
		return
	}
	switch v := value.(type) {
	case int:
		out.WriteString(strconv.Itoa(v))
	case bool:
		out.WriteString(strconv.FormatBool(v))
	case unit:
		out.WriteString("()")
	case pair:
		out.WriteString("(")
		show(out, v.first)
		out.WriteString(", ")
		show(out, v.second)
		out.WriteString(")")
	case list:
		between := "["
		for cell := v.cell; cell != nil && out.Len() <= api.MaxShown; cell = cell.second.(list).cell {
			out.WriteString(between)
			show(out, cell.first)
			between = ", "
		}
		if v.cell == nil {
			out.WriteString("[")
		}
		out.WriteString("]")
	default:
		function(v)
		out.WriteString("fn")
	}
}
