package emit

import (
	"slices"

	"effectus/api"
	"effectus/code"
)

// ending is what becomes of a term's value.
type ending int

const (
	stays   ending = iota // more is done with it here
	returns               // it is what the function gives back
	rests                 // what the function gives back is a rest that comes to it
)

// term puts a term's value, and does with it what is said.
func (b *body) term(t api.Term, end ending) {
	b.begin()
	switch t.Op {
	case api.TApp:
		b.application(t, end)
	case api.TLet, api.TRec:
		b.let(t, end)
	case api.TIf:
		b.choice(t, end)
	case api.TCase:
		b.cases(t, end)
	case api.THandle:
		b.handler(t, end)
	default:
		b.plain(t)
		b.finish(end)
	}
}

// finish does what is said with the value that was put.
func (b *body) finish(end ending) {
	if end == stays {
		return
	}
	if end == rests {
		b.helper(restOfValue)
	}
	b.put(api.InReturn, 0)
}

func (b *body) values(terms []api.Term) {
	for _, t := range terms {
		b.term(t, stays)
	}
}

// plain puts the value of a term that has no other term in its own place.
func (b *body) plain(t api.Term) {
	switch t.Op {
	case api.TInt, api.TBool, api.TUnit, api.TNil:
		b.putInt(t.N) // 0 of the last two
	case api.TVar:
		b.variable(t.N)
	case api.TFn:
		b.lambda(t)
	default:
		b.values(t.Kids)
		b.put(instruction(t))
	}
}

// instruction is that of a term which puts its kids' values, and then does one thing with them.
func instruction(t api.Term) (op, a int) {
	switch t.Op {
	case api.TPair:
		return api.InPair, 0
	case api.TFst:
		return api.InFst, 0
	case api.TSnd:
		return api.InSnd, 0
	case api.TCons:
		return api.InCons, 0
	case api.TOp:
		return api.InSign, signOf(t.S)
	}
	return api.InDo, t.N
}

func signOf(s string) int {
	switch s {
	case "+":
		return code.SignPlus
	case "-":
		return code.SignMinus
	case "*":
		return code.SignTimes
	case "<":
		return code.SignLess
	}
	return code.SignSame
}

// lambda puts a function, and answers which variables it catches.
func (b *body) lambda(t api.Term) []int {
	return b.closure(parameter(t.N), func(f *body) { f.term(t.Kids[0], returns) })
}

// let: a variable has its slot where it is in sight alone.
func (b *body) let(t api.Term, end ending) {
	taken := b.taken
	switch {
	case t.Op == api.TRec:
		b.recursive(t)
	case t.N == 0:
		b.term(t.Kids[0], stays)
		b.put(api.InDrop, 0)
	default:
		b.term(t.Kids[0], stays)
		b.put(api.InStore, b.slot(t.N))
	}
	b.term(t.Kids[1], end)
	b.taken = taken
}

// recursive stores a function; where that has caught itself it has another value there at first.
func (b *body) recursive(t api.Term) {
	at := b.slot(t.N)
	b.begin()
	caught := b.lambda(t.Kids[0])
	b.put(api.InStore, at)
	if field := slices.Index(caught, t.N); field >= 0 {
		b.put(api.InSlot, at)
		b.add(api.Ins{Op: api.InPatch, A: at, B: field})
	}
}

func (b *body) choice(t api.Term, end ending) {
	b.term(t.Kids[0], stays)
	b.either(end, func() { b.term(t.Kids[1], end) }, func() { b.term(t.Kids[2], end) })
}

// cases: the list is in the slot that its rest has then.
func (b *body) cases(t api.Term, end ending) {
	taken := b.taken
	b.term(t.Kids[0], stays)
	list := b.slot(t.Ns[1])
	b.put(api.InStore, list)
	b.put(api.InSlot, list)
	b.put(api.InEmpty, 0)
	b.either(end, func() { b.term(t.Kids[1], end) }, func() {
		b.part(list, api.InHead, b.slot(t.Ns[0]))
		b.part(list, api.InRest, list)
		b.term(t.Kids[2], end)
	})
	b.taken = taken
}

// part stores a part of a list.
func (b *body) part(list, op, slot int) {
	b.put(api.InSlot, list)
	b.put(op, 0)
	b.put(api.InStore, slot)
}

// either takes a truth value, and does one thing or the other; behind both the code goes on at the same place, if it does.
func (b *body) either(end ending, yes, no func()) {
	unless := b.put(api.InUnless, 0)
	yes()
	if end != stays {
		b.land(unless)
		no()
		return
	}
	jump := b.put(api.InJump, 0)
	b.land(unless)
	no()
	b.land(jump)
}
