package marks_test

import (
	"slices"

	"effectus/api"
)

// A watcher evaluates a core term, by P6.2, and looks whether an operation is done while a calm term is evaluated.
// What waits is a row of frames, the innermost last; frames are never changed.
type watcher struct {
	calm         []bool // of each term, found by its At
	fuel, steps  int
	frames       []frame
	over, broken bool
	kind         int // how the run stands
	calms, dones int // how many terms with kids that are calm came to a value, how many operations were done
}

// frame is a term that waits for a kid's value, or stands for a calm one until it has its own.
type frame struct {
	of     api.Term
	guard  bool
	known  *known
	values []any // of the kids that were evaluated
}

// known is what the variables in sight stand for.
type known struct {
	variable int
	value    any
	rest     *known
}

type (
	pair    struct{ first, second any }
	list    struct{ cell *pair } // no cell: it is empty
	closure struct {
		fn    api.Term
		known *known
		own   int // above 0: the variable by which it knows itself
	}
	resumption struct {
		once   bool
		frames []frame
		used   *int
	}
)

func (k *known) with(variable int, value any) *known {
	return &known{variable, value, k}
}

func (k *known) find(variable int) any {
	for k.variable != variable {
		k = k.rest
	}
	return k.value
}

// numbered has as the place of each term how many stand ahead of it.
func numbered(t api.Term, next *int) api.Term {
	t.At = *next
	*next++
	t.Kids = slices.Clone(t.Kids)
	for i, kid := range t.Kids {
		t.Kids[i] = numbered(kid, next)
	}
	return t
}

// watch runs a term whose marks are told; of what a text's once operations do is not asked here.
func watch(t api.Term, calm []bool, once []bool, fuel int) *watcher {
	w := &watcher{calm: calm, fuel: fuel}
	t = numbered(t, new(int))
	value, known, next := any(nil), (*known)(nil), &t
	for !w.over {
		switch {
		case next != nil:
			value, known, next = w.begin(*next, known)
		case len(w.frames) == 0:
			w.end(api.Done)
		default:
			last := w.frames[len(w.frames)-1]
			w.frames = w.frames[:len(w.frames)-1]
			value, known, next = w.goOn(last, value, once)
		}
	}
	return w
}

func (w *watcher) end(kind int) (any, *known, *api.Term) {
	w.over, w.kind = true, kind
	return nil, nil, nil
}

// begin answers the value of a term, or what is evaluated next.
func (w *watcher) begin(t api.Term, k *known) (any, *known, *api.Term) {
	if w.steps == w.fuel {
		return w.end(api.Going)
	}
	w.steps++
	switch t.Op {
	case api.TInt:
		return t.N, nil, nil
	case api.TBool:
		return t.N == 1, nil, nil
	case api.TUnit:
		return struct{}{}, nil, nil
	case api.TNil:
		return list{}, nil, nil
	case api.TFn:
		return closure{fn: t, known: k}, nil, nil
	case api.TVar:
		return k.find(t.N), nil, nil
	}
	if w.calm[t.At] {
		w.frames = append(w.frames, frame{guard: true})
	}
	w.frames = append(w.frames, frame{of: t, known: k})
	return nil, k, &t.Kids[0]
}

// goOn goes on with a frame whose kid has come to a value.
func (w *watcher) goOn(f frame, value any, once []bool) (any, *known, *api.Term) {
	if f.guard {
		w.calms++
		return value, nil, nil
	}
	t, values := f.of, append(slices.Clone(f.values), value)
	switch t.Op {
	case api.TApp, api.TPair, api.TCons, api.TOp:
		if len(values) == 1 {
			w.frames = append(w.frames, frame{of: t, known: f.known, values: values})
			return nil, f.known, &t.Kids[1]
		}
		return w.both(t, values[0], values[1])
	case api.TLet:
		return nil, f.known.with(t.N, value), &t.Kids[1]
	case api.TRec:
		own := value.(closure)
		own.own = t.N
		return nil, f.known.with(t.N, own), &t.Kids[1]
	case api.TIf:
		if value.(bool) {
			return nil, f.known, &t.Kids[1]
		}
		return nil, f.known, &t.Kids[2]
	case api.TFst:
		return value.(pair).first, nil, nil
	case api.TSnd:
		return value.(pair).second, nil, nil
	case api.TCase:
		cell := value.(list).cell
		if cell == nil {
			return nil, f.known, &t.Kids[1]
		}
		return nil, f.known.with(t.Ns[0], cell.first).with(t.Ns[1], cell.second), &t.Kids[2]
	case api.TDo:
		return w.do(t, value, once[t.N])
	}
	return nil, f.known.with(t.N, value), &t.Kids[1] // a THandle
}

// both does what a term is there for that has evaluated two kids.
func (w *watcher) both(t api.Term, a, b any) (any, *known, *api.Term) {
	switch t.Op {
	case api.TPair:
		return pair{a, b}, nil, nil
	case api.TCons:
		return list{&pair{a, b}}, nil, nil
	case api.TApp:
		return w.apply(a, b)
	}
	x, y := a.(int), b.(int)
	switch t.S {
	case "+":
		return x + y, nil, nil
	case "-":
		return x - y, nil, nil
	case "*":
		return x * y, nil, nil
	case "<":
		return x < y, nil, nil
	}
	return x == y, nil, nil
}

func (w *watcher) apply(f, argument any) (any, *known, *api.Term) {
	if r, ok := f.(resumption); ok {
		if *r.used++; *r.used > 1 && r.once {
			return w.end(api.Spent)
		}
		w.frames = append(w.frames, r.frames...)
		return argument, nil, nil
	}
	c := f.(closure)
	k := c.known
	if c.own > 0 {
		k = k.with(c.own, c)
	}
	return nil, k.with(c.fn.N, argument), &c.fn.Kids[0]
}

// do lets the nearest THandle that has the operation take over. No calm term may be on its way, neither within that nor around it.
func (w *watcher) do(t api.Term, value any, once bool) (any, *known, *api.Term) {
	w.dones++
	w.broken = w.broken || slices.ContainsFunc(w.frames, func(f frame) bool { return f.guard })
	for i, f := range slices.Backward(w.frames) {
		if f.of.Op != api.THandle {
			continue
		}
		for clause, kid := range f.of.Kids[2:] {
			numbers := f.of.Ns[3*clause:]
			if numbers[0] == t.N {
				r := resumption{once: once, frames: slices.Clone(w.frames[i+f.of.Of:]), used: new(int)}
				w.frames = slices.Clone(w.frames[:i])
				return nil, f.known.with(numbers[1], value).with(numbers[2], r), &kid
			}
		}
	}
	return w.end(api.Wrong)
}
