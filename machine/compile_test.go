package machine_test

import (
	"strings"

	"effectus/api"
)

// compiler makes core terms into codes in the plainest way: every function catches all variables in sight, and all others are in slots.
type compiler struct{ c api.Code }

// body is a function that is being made.
type body struct {
	*compiler
	number int
	sight  []int       // the variables in sight, the outermost first
	free   map[int]int // of those that were caught, which
	slot   map[int]int
	param  int
	ins    []api.Ins
}

// compile is the code of a term whose value has a shape; ops are the operations.
func compile(term api.Term, shape string, ops []api.CodeOp) api.Code {
	k := &compiler{api.Code{Shape: shape, Ops: ops}}
	k.function(nil, 0, func(b *body) { b.tail(term) })
	return k.c
}

// function adds a function with a parameter, and answers its number.
func (k *compiler) function(sight []int, param int, fill func(*body)) int {
	b := &body{compiler: k, number: len(k.c.Funs), free: map[int]int{}, slot: map[int]int{}, param: param}
	for i, v := range sight {
		b.free[v] = i
	}
	b.sight = append(append(b.sight, sight...), param)
	k.c.Funs = append(k.c.Funs, api.CodeFun{Free: len(sight)})
	fill(b)
	k.c.Funs[b.number].Ins = b.ins
	k.c.Funs[b.number].Slots = len(b.slot)
	return b.number
}

func (b *body) put(op, a int) int {
	b.ins = append(b.ins, api.Ins{Op: op, A: a})
	return len(b.ins) - 1
}

func (b *body) land(at int) { b.ins[at].A = len(b.ins) }

func (b *body) load(v int) {
	if at, ok := b.slot[v]; ok {
		b.put(api.InSlot, at)
	} else if at, ok := b.free[v]; ok {
		b.put(api.InFree, at)
	} else if v == b.param && b.number > 0 {
		b.put(api.InArg, 0)
	} else {
		b.put(api.InInt, 0)
	}
}

// bind takes a value for a variable.
func (b *body) bind(v int) {
	if v == 0 {
		b.put(api.InDrop, 0)
		return
	}
	at := len(b.slot)
	b.slot[v] = at
	b.sight = append(b.sight, v)
	b.put(api.InStore, at)
}

// closure puts a function that has caught all that is in sight.
func (b *body) closure(param int, fill func(*body)) {
	for _, v := range b.sight {
		b.load(v)
	}
	b.put(api.InMake, b.function(b.sight, param, fill))
}

func (b *body) values(kids []api.Term) {
	for _, k := range kids {
		b.value(k)
	}
}

// tail puts a term whose value is the function's.
func (b *body) tail(t api.Term) {
	switch t.Op {
	case api.TApp:
		b.values(t.Kids)
		b.put(api.InTail, 0)
	case api.TIf, api.TCase:
		b.choose(t, b.tail, false)
	case api.TLet, api.TRec:
		b.let(t, b.tail)
	default:
		b.value(t)
		b.put(api.InReturn, 0)
	}
}

func (b *body) value(t api.Term) {
	plain := map[int]int{api.TApp: api.InCall, api.TPair: api.InPair, api.TFst: api.InFst, api.TSnd: api.InSnd, api.TCons: api.InCons}
	if op, ok := plain[t.Op]; ok {
		b.values(t.Kids)
		b.put(op, 0)
		return
	}
	switch t.Op {
	case api.TInt, api.TBool:
		b.ins = append(b.ins, api.Ins{Op: api.InInt, N: t.N})
	case api.TUnit, api.TNil:
		b.put(api.InInt, 0)
	case api.TVar:
		b.load(t.N)
	case api.TFn:
		b.closure(t.N, func(f *body) { f.tail(t.Kids[0]) })
	case api.TOp:
		b.values(t.Kids)
		b.put(api.InSign, len(strings.Fields(signs[:strings.Index(signs, t.S)])))
	case api.TDo:
		b.values(t.Kids)
		b.put(api.InDo, t.N)
	case api.TIf, api.TCase:
		b.choose(t, b.value, true)
	case api.TLet, api.TRec:
		b.let(t, b.value)
	case api.THandle:
		b.handle(t)
	}
}

func (b *body) let(t api.Term, then func(api.Term)) {
	sight := len(b.sight)
	if t.Op == api.TRec {
		b.put(api.InInt, 0)
		b.bind(t.N)
		at := b.slot[t.N]
		b.value(t.Kids[0])
		b.put(api.InStore, at)
		b.put(api.InSlot, at)
		b.ins = append(b.ins, api.Ins{Op: api.InPatch, A: at, B: len(b.sight) - 1})
	} else {
		b.value(t.Kids[0])
		b.bind(t.N)
	}
	then(t.Kids[1])
	b.sight = b.sight[:sight]
}

// choose puts one of two terms, by a truth value or by a list.
func (b *body) choose(t api.Term, then func(api.Term), goesOn bool) {
	sight := len(b.sight)
	b.value(t.Kids[0])
	list := len(b.slot)
	if t.Op == api.TCase {
		b.slot[-1-list] = list // one of its own
		b.put(api.InStore, list)
		b.put(api.InSlot, list)
		b.put(api.InEmpty, 0)
	}
	other := b.put(api.InUnless, 0)
	then(t.Kids[1])
	end := -1
	if goesOn {
		end = b.put(api.InJump, 0)
	}
	b.land(other)
	if t.Op == api.TCase {
		for i, op := range []int{api.InHead, api.InRest} {
			b.put(api.InSlot, list)
			b.put(op, 0)
			b.bind(t.Ns[i])
		}
	}
	then(t.Kids[2])
	b.sight = b.sight[:sight]
	if goesOn {
		b.land(end)
	}
}

func (b *body) handle(t api.Term) {
	h := api.Handler{Shallow: t.Of == 1}
	b.closure(t.N, func(f *body) { f.tail(t.Kids[1]) })
	for i, clause := range t.Kids[2:] {
		h.Ops = append(h.Ops, t.Ns[3*i])
		b.closure(-1000, func(f *body) {
			for j, op := range []int{api.InFst, api.InSnd} {
				f.put(api.InArg, 0)
				f.put(op, 0)
				f.bind(t.Ns[3*i+1+j])
			}
			f.tail(clause)
		})
	}
	b.closure(-1000, func(f *body) { f.tail(t.Kids[0]) })
	b.c.Handlers = append(b.c.Handlers, h)
	b.put(api.InHandle, len(b.c.Handlers)-1)
}
