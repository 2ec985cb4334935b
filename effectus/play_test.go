package effectus_test

import (
	"slices"

	"effectus/api"
	"effectus/core"
	"effectus/syntax"
)

// A player evaluates a core term by chapters 5 and 6, to count how many terms wait for a kid's value at once.
// What waits is a row of frames, the innermost last; frames are never changed.
type player struct {
	once    []bool // of each operation
	frames  []frame
	waiting int // the most frames that there were at once
	over    bool
}

// frame is a term that waits for a kid's value; a THandle's is in sight of what is done in its first kid.
type frame struct {
	of     api.Term
	known  *known
	values []any // of the kids that were evaluated
}

// known is what the variables in sight stand for.
type known struct {
	variable int
	value    any
	rest     *known
}

type (
	pair    struct{ first, second any }
	list    struct{ cell *pair } // no cell: it is empty
	closure struct {
		fn    api.Term
		known *known
		own   int // above 0: the variable by which it knows itself
	}
	resumption struct {
		op     int
		frames []frame
		used   *int
	}
)

func (k *known) with(variable int, value any) *known {
	if variable == 0 {
		return k
	}
	return &known{variable, value, k}
}

func (k *known) find(variable int) any {
	for k.variable != variable {
		k = k.rest
	}
	return k.value
}

// waitingOf is how many terms of a text wait at once, at most, until it has come to its end.
func waitingOf(text string) int {
	term, _ := core.Core(text)
	tree, _ := syntax.Parse(text)
	p := &player{}
	for _, n := range tree.Kids[:tree.N] {
		p.once = append(p.once, n.N == 1)
	}
	value, known, next := any(nil), (*known)(nil), &term
	for !p.over {
		switch {
		case next != nil:
			value, known, next = p.begin(*next, known)
		case len(p.frames) == 0:
			p.over = true
		default:
			last := p.frames[len(p.frames)-1]
			p.frames = p.frames[:len(p.frames)-1]
			value, known, next = p.goOn(last, value)
		}
	}
	return p.waiting
}

func (p *player) push(frames ...frame) {
	p.frames = append(p.frames, frames...)
	p.waiting = max(p.waiting, len(p.frames))
}

// begin answers the value of a term, or what is evaluated next.
func (p *player) begin(t api.Term, k *known) (any, *known, *api.Term) {
	switch t.Op {
	case api.TInt, api.TUnit:
		return t.N, nil, nil
	case api.TBool:
		return t.N == 1, nil, nil
	case api.TNil:
		return list{}, nil, nil
	case api.TFn:
		return closure{fn: t, known: k}, nil, nil
	case api.TVar:
		return k.find(t.N), nil, nil
	}
	p.push(frame{of: t, known: k})
	return nil, k, &t.Kids[0]
}

// goOn goes on with a frame whose kid has come to a value.
func (p *player) goOn(f frame, value any) (any, *known, *api.Term) {
	t, k, values := f.of, f.known, append(slices.Clone(f.values), value)
	switch t.Op {
	case api.TLet, api.THandle:
		return nil, k.with(t.N, value), &t.Kids[1]
	case api.TRec:
		own := value.(closure)
		own.own = t.N
		return nil, k.with(t.N, own), &t.Kids[1]
	case api.TIf:
		if value.(bool) {
			return nil, k, &t.Kids[1]
		}
		return nil, k, &t.Kids[2]
	case api.TFst:
		return value.(pair).first, nil, nil
	case api.TSnd:
		return value.(pair).second, nil, nil
	case api.TCase:
		cell := value.(list).cell
		if cell == nil {
			return nil, k, &t.Kids[1]
		}
		return nil, k.with(t.Ns[0], cell.first).with(t.Ns[1], cell.second), &t.Kids[2]
	case api.TDo:
		return p.do(t, value)
	}
	if len(values) < len(t.Kids) {
		p.push(frame{t, k, values})
		return nil, k, &t.Kids[1]
	}
	return p.both(t, values[0], value)
}

// both does what a term is there for that has evaluated its two kids.
func (p *player) both(t api.Term, a, b any) (any, *known, *api.Term) {
	switch t.Op {
	case api.TPair:
		return pair{a, b}, nil, nil
	case api.TCons:
		return list{&pair{a, b}}, nil, nil
	case api.TApp:
		return p.apply(a, b)
	}
	x, y := a.(int), b.(int)
	switch t.S {
	case "+":
		return x + y, nil, nil
	case "-":
		return x - y, nil, nil
	case "*":
		return x * y, nil, nil
	case "<":
		return x < y, nil, nil
	}
	return x == y, nil, nil
}

func (p *player) apply(f, argument any) (any, *known, *api.Term) {
	if r, ok := f.(resumption); ok {
		*r.used++
		p.over = *r.used > 1 && p.once[r.op]
		p.push(r.frames...)
		return argument, nil, nil
	}
	c := f.(closure)
	k := c.known
	if c.own > 0 {
		k = k.with(c.own, c)
	}
	return nil, k.with(c.fn.N, argument), &c.fn.Kids[0]
}

// do lets the nearest THandle that has the operation take over.
func (p *player) do(t api.Term, value any) (any, *known, *api.Term) {
	for i, f := range slices.Backward(p.frames) {
		if f.of.Op != api.THandle {
			continue
		}
		for clause, kid := range f.of.Kids[2:] {
			numbers := f.of.Ns[3*clause:]
			if numbers[0] == t.N {
				k := resumption{op: t.N, frames: slices.Clone(p.frames[i+f.of.Of:]), used: new(int)}
				p.frames = slices.Clone(p.frames[:i])
				return nil, f.known.with(numbers[1], value).with(numbers[2], k), &kid
			}
		}
	}
	panic("nothing handles it")
}
