package code

import "effectus/api"

// isShape says whether a text is one shape, and nothing behind it.
func isShape(s string) bool {
	wanted := 1 // shapes that have to follow yet
	for i := range len(s) {
		if wanted == 0 {
			return false
		}
		switch s[i] {
		case 'i', 'b', 'u', 'f', 'v':
			wanted--
		case 'l':
		case 'p':
			wanted++
		default:
			return false
		}
	}
	return wanted == 0
}

// soundHandlers says whether each handler has operations that there are, and each of these once.
func soundHandlers(c api.Code) bool {
	last := make([]int, len(c.Ops)) // of each operation the last handler that has it, counted from 1 on
	for h, handler := range c.Handlers {
		for _, op := range handler.Ops {
			if !below(op, len(c.Ops)) || last[op] == h+1 {
				return false
			}
			last[op] = h + 1
		}
	}
	return true
}

// below says whether there is a number n of so many things.
func below(n, many int) bool { return n >= 0 && n < many }

// checker checks one function of a code.
type checker struct {
	code  api.Code
	fun   int
	ins   []api.Ins
	known []int // how many values there are ahead of each instruction, and behind the last one
}

const unknown = -1

// check answers a fault whose place is counted from the function's first instruction on.
func (k *checker) check() api.Fault {
	for at, in := range k.ins {
		if kind := k.operands(in); kind != api.OK {
			return api.Fault{Kind: kind, At: at}
		}
	}
	if at, ok := k.flow(); !ok {
		return api.Fault{Kind: api.ErrFlow, At: at}
	}
	return api.Fault{}
}

// operands answers OK if all is there that an instruction's operands speak of.
func (k *checker) operands(in api.Ins) api.Errno {
	switch in.Op {
	case api.InJump, api.InUnless:
		return kindUnless(below(in.A, len(k.ins)), api.ErrJump)
	case api.InArg:
		return kindUnless(k.fun != 0, api.ErrNumber)
	case api.InFree:
		return kindUnless(below(in.A, k.code.Funs[k.fun].Free), api.ErrNumber)
	case api.InSlot, api.InStore, api.InPatch:
		return kindUnless(below(in.A, k.code.Funs[k.fun].Slots), api.ErrNumber)
	case api.InSign:
		return kindUnless(below(in.A, Signs), api.ErrNumber)
	case api.InMake:
		return kindUnless(in.A != 0 && below(in.A, len(k.code.Funs)), api.ErrNumber)
	case api.InHandle:
		return kindUnless(below(in.A, len(k.code.Handlers)), api.ErrNumber)
	case api.InDo:
		return kindUnless(below(in.A, len(k.code.Ops)), api.ErrNumber)
	}
	return kindUnless(isOp(in.Op), api.ErrOp)
}

func kindUnless(ok bool, kind api.Errno) api.Errno {
	if ok {
		return api.OK
	}
	return kind
}

// flow goes through the instructions once, and answers the place at which the values are not as they must be, if there is one.
func (k *checker) flow() (int, bool) {
	k.known = make([]int, len(k.ins)+1)
	for at := range k.known {
		k.known[at] = unknown
	}
	k.known[0] = 0
	for at := range k.ins {
		if !k.step(at) {
			return at, false
		}
	}
	return len(k.ins), k.known[len(k.ins)] == unknown
}

func (k *checker) step(at int) bool {
	in, have := k.ins[at], k.known[at]
	takes := k.takes(in)
	if have == unknown || have < takes || ends(in.Op) && have > takes {
		return false
	}
	behind := have - takes + puts(in.Op)
	if behind > api.MaxStack {
		return false
	}
	if jumps(in.Op) && !k.learn(in.A, behind) {
		return false
	}
	return ends(in.Op) || in.Op == api.InJump || k.learn(at+1, behind)
}

// learn is told how many values there are ahead of an instruction; it answers false if that is known otherwise.
// Whatever comes up to the instruction that is being looked at is known, so that new is only what is known of one behind it.
func (k *checker) learn(at, values int) bool {
	if k.known[at] == unknown {
		k.known[at] = values
	}
	return k.known[at] == values
}

// takes is how many values an instruction takes.
func (k *checker) takes(in api.Ins) int {
	switch in.Op {
	case api.InPair, api.InCons, api.InSign, api.InCall, api.InTail:
		return 2
	case api.InStore, api.InFst, api.InSnd, api.InHead, api.InRest, api.InEmpty,
		api.InPatch, api.InReturn, api.InUnless, api.InDrop, api.InDo:
		return 1
	case api.InMake:
		return k.code.Funs[in.A].Free
	case api.InHandle:
		return 2 + len(k.code.Handlers[in.A].Ops)
	}
	return 0
}

// puts is how many values an instruction puts.
func puts(op int) int {
	switch op {
	case api.InStore, api.InPatch, api.InDrop, api.InUnless, api.InReturn, api.InTail, api.InJump:
		return 0
	}
	return 1
}

// ends says whether a call is over behind an instruction.
func ends(op int) bool { return op == api.InReturn || op == api.InTail }

// jumps says whether an instruction may go on at A.
func jumps(op int) bool { return op == api.InJump || op == api.InUnless }
