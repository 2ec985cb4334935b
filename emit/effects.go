package emit

import "effectus/api"

// A rest is a function that comes to a value when it is applied, to anything. A handler's functions, for its return and its operations, give back no value but a rest, and what waits for
// the handler's value applies that as its own last call. So a clause takes the handler's place: were its calls done within it, each handler in a loop would leave a call
// that has nothing to do any more.

// Functions that no term stands for.
const (
	restOfValue = iota // a rest: it has caught what it comes to
	restOfCall         // a rest: it has caught a function and an argument
	resumes            // what a deep resumption is as a value: it has caught the resumption, which gives back a rest, and comes to what that does
	helperKinds        // how many there are
)

func helperCode(which int) api.CodeFun {
	switch which {
	case restOfValue:
		return api.CodeFun{Free: 1, Ins: []api.Ins{{Op: api.InFree}, {Op: api.InReturn}}}
	case restOfCall:
		return api.CodeFun{Free: 2, Ins: []api.Ins{{Op: api.InFree}, {Op: api.InFree, A: 1}, {Op: api.InTail}}}
	}
	return api.CodeFun{Free: 1, Ins: []api.Ins{{Op: api.InFree}, {Op: api.InArg}, {Op: api.InCall}, {Op: api.InInt}, {Op: api.InTail}}}
}

// helper puts such a function, which catches what was put last.
func (b *body) helper(which int) {
	if b.helpers[which] == 0 {
		b.helpers[which] = len(b.code.Funs)
		b.code.Funs = append(b.code.Funs, helperCode(which))
	}
	b.put(api.InMake, b.helpers[which])
}

func (b *body) isDeep(variable int) bool {
	_, deep := b.deep[variable]
	return deep
}

func (b *body) variable(number int) {
	b.load(number)
	if b.isDeep(number) {
		b.helper(resumes)
	}
}

func (b *body) application(t api.Term, end ending) {
	function := t.Kids[0]
	if function.Op == api.TVar && b.isDeep(function.N) {
		b.begin()
		b.load(function.N)
		b.term(t.Kids[1], stays)
		b.resumed(end)
		return
	}
	b.values(t.Kids)
	b.call(end)
}

// call applies a function.
func (b *body) call(end ending) {
	switch end {
	case stays:
		b.put(api.InCall, 0)
	case returns:
		b.put(api.InTail, 0)
	case rests:
		b.helper(restOfCall)
		b.put(api.InReturn, 0)
	}
}

// resumed applies a deep resumption. It gives back a rest, as its handler does.
func (b *body) resumed(end ending) {
	if end == rests {
		b.put(api.InTail, 0)
		return
	}
	b.put(api.InCall, 0)
	b.rest(end)
}

// rest applies the rest that was put.
func (b *body) rest(end ending) {
	b.putInt(0)
	b.call(end)
}

func (b *body) handler(t api.Term, end ending) {
	if end == rests {
		// It is handled in the place of what waits here, too: not within this call.
		b.closure(sight{}, func(f *body) { f.handler(t, returns) })
		b.put(api.InReturn, 0)
		return
	}
	b.closure(parameter(t.N), func(f *body) { f.term(t.Kids[1], rests) })
	h := api.Handler{Shallow: t.Of == 1}
	for i, clause := range t.Kids[2:] {
		numbers := t.Ns[3*i:]
		h.Ops = append(h.Ops, numbers[0])
		b.clause(clause, numbers[1], numbers[2], h.Shallow)
	}
	b.closure(sight{}, func(f *body) { f.term(t.Kids[0], returns) })
	b.put(api.InHandle, len(b.code.Handlers))
	b.code.Handlers = append(b.code.Handlers, h)
	b.rest(end)
}

// clause puts the function for an operation: its argument is a pair of the operation's argument and the resumption.
func (b *body) clause(t api.Term, value, resumption int, shallow bool) {
	if !shallow {
		b.deep[resumption] = struct{}{}
	}
	known := sight{
		value:      {{Op: api.InArg}, {Op: api.InFst}},
		resumption: {{Op: api.InArg}, {Op: api.InSnd}},
	}
	b.closure(known, func(f *body) { f.term(t, rests) })
}
