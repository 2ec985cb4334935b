package machine

import (
	"effectus/api"
	"effectus/code"
)

// step does the instruction that comes next, and answers how the machine stands then. With Memory and Wrong it has done nothing.
func (m *Machine) step() int {
	c, _ := m.stack.Top() // while the machine is going the innermost segment has a call
	in := m.code.Funs[c.number].Ins[c.place]
	switch in.Op {
	case api.InJump:
		c.place = in.A
		return api.Going
	case api.InUnless:
		return unless(c, in.A)
	case api.InCall:
		return m.apply(c, stays)
	case api.InTail:
		return m.apply(c, over)
	case api.InReturn:
		return m.giveBack(c.top())
	case api.InHandle:
		return m.handle(c, in.A)
	case api.InDo:
		return m.do(c, in.A)
	}
	how := m.plain(c, in)
	if how == api.Going {
		c.place++
	}
	return how
}

// plain does an instruction behind which the next one of the same call comes.
func (m *Machine) plain(c *call, in api.Ins) int {
	switch in.Op {
	case api.InInt:
		c.put(api.Cell{N: in.N})
	case api.InArg:
		c.put(c.argument)
	case api.InFree:
		c.put(m.heap.Get(c.function.N, in.A))
	case api.InSlot:
		c.put(c.slots.get(in.A))
	case api.InStore:
		c.slots.set(in.A, c.top())
		c.drop(1)
	case api.InDrop:
		c.drop(1)
	case api.InPair:
		return m.build(c, api.ObPair, 0, 2)
	case api.InCons:
		return m.build(c, api.ObCons, 0, 2)
	case api.InMake:
		return m.build(c, api.ObFun, in.A, m.code.Funs[in.A].Free)
	case api.InFst:
		return m.field(c, api.ObPair, 0)
	case api.InSnd:
		return m.field(c, api.ObPair, 1)
	case api.InHead:
		return m.field(c, api.ObCons, 0)
	case api.InRest:
		return m.field(c, api.ObCons, 1)
	case api.InEmpty:
		return m.empty(c)
	case api.InSign:
		return sign(c, in.A)
	case api.InPatch:
		return m.patch(c, in.A, in.B)
	}
	return api.Going
}

// unless takes a number, and goes on at a place if it is not 1.
func unless(c *call, place int) int {
	v := c.top()
	if v.Ptr {
		return api.Wrong
	}
	c.drop(1)
	c.place++
	if v.N != 1 {
		c.place = place
	}
	return api.Going
}

// sign takes two numbers and puts what a sign makes of them.
func sign(c *call, which int) int {
	a, b := c.last(2)[0], c.last(2)[1]
	if a.Ptr || b.Ptr {
		return api.Wrong
	}
	c.replace(2, signed(which, a.N, b.N))
	return api.Going
}

func signed(which, a, b int) api.Cell {
	switch which {
	case code.SignPlus:
		return api.Cell{N: a + b}
	case code.SignMinus:
		return api.Cell{N: a - b}
	case code.SignTimes:
		return api.Cell{N: a * b}
	case code.SignLess:
		return truth(a < b)
	}
	return truth(a == b)
}

// truth is a truth value.
func truth(is bool) api.Cell {
	if is {
		return api.Cell{N: 1}
	}
	return api.Cell{}
}
