package code_test

import (
	"math"
	"strings"
	"testing"

	"effectus/api"
	"effectus/code"
)

// is an instruction with an A.
func is(op, a int) api.Ins { return api.Ins{Op: op, A: a} }

// just is instructions without operands.
func just(ops ...int) []api.Ins {
	var out []api.Ins
	for _, op := range ops {
		out = append(out, api.Ins{Op: op})
	}
	return out
}

// rich is a code that has two operations, two handlers and three functions; function 1 has caught two values and has two slots; the others have none of these.
// The instructions are those of the function of that number; those of the others just return.
func rich(fun int, ins ...api.Ins) api.Code {
	c := api.Code{
		Shape: "i", Ops: []api.CodeOp{{Name: "a"}, {Name: "b", Once: true}},
		Handlers: []api.Handler{{Ops: []int{1}}, {Shallow: true}},
		Funs:     []api.CodeFun{{}, {Free: 2, Slots: 2}, {}},
	}
	for n := range c.Funs {
		c.Funs[n].Ins = just(api.InInt, api.InReturn)
	}
	c.Funs[fun].Ins = ins
	return c
}

// passes wants no fault, of a code that Encode writes.
func passes(t *testing.T, about string, c api.Code) {
	t.Helper()
	fails(t, about, c, api.OK, 0)
}

// fails wants a fault of a code that Encode writes.
func fails(t *testing.T, about string, c api.Code, kind api.Errno, at int) {
	t.Helper()
	if _, e := code.Encode(c); e != api.OK {
		t.Errorf("%s: Encode answers %v", about, e)
	}
	if got, want := code.Check(c), (api.Fault{Kind: kind, At: at}); got != want {
		t.Errorf("%s: %v, want %v: %+v", about, got, want, c)
	}
}

// P11.3, 1: the shape.
func TestShapes(t *testing.T) {
	long := strings.Repeat("l", 65534)
	deep := strings.Repeat("p", 30000)
	leaves := strings.Repeat("v", 30001)
	for _, s := range []string{"i", "b", "u", "f", "v", "li", "llllf", "pib", "plilb", "ppiiu", "piplbu", "pppiiii", "pipipii", "lpii", long + "i", deep + leaves} {
		c := of(just(api.InInt, api.InReturn)...)
		c.Shape = s
		passes(t, "a shape", c)
	}
	for _, s := range []string{"", "l", "p", "pi", "pl", "ppii", "ii", "il", "ip", "pibu", "lib", "x", "I", "lx", "pxi", "pix", "ix", "i ", " i", "\x00", "\xff", long, deep, deep + leaves[1:], deep + leaves + "v", leaves} {
		c := of(just(api.InInt, api.InReturn)...)
		c.Shape = s
		fails(t, "no shape", c, api.ErrNumber, 0)
	}
	for b := range 256 {
		c := of(just(api.InInt, api.InReturn)...)
		c.Shape = string([]byte{byte(b)})
		if strings.Contains("ibufv", c.Shape) {
			passes(t, "a shape", c)
		} else {
			fails(t, "no shape", c, api.ErrNumber, 0)
		}
	}
}

// P11.3, 1: what the handlers handle.
func TestHandlers(t *testing.T) {
	with := func(ops int, handlers ...[]int) api.Code {
		c := of(just(api.InInt, api.InReturn)...)
		c.Ops = make([]api.CodeOp, ops)
		for _, h := range handlers {
			c.Handlers = append(c.Handlers, api.Handler{Ops: h})
		}
		return c
	}
	all := make([]int, 255)
	for i := range all {
		all[i] = 254 - i
	}
	passes(t, "none", with(0))
	passes(t, "of nothing", with(0, nil))
	passes(t, "of one, of all, in any order", with(3, []int{2}, []int{2, 0, 1}, []int{0, 1, 2}, []int{2}))
	passes(t, "of as many as can be", with(255, all, all))
	fails(t, "of one that there is not", with(0, []int{0}), api.ErrNumber, 0)
	fails(t, "of one that there is not", with(2, []int{0, 1, 2}), api.ErrNumber, 0)
	fails(t, "of one that there is not", with(254, all), api.ErrNumber, 0)
	fails(t, "of one that there is not", with(255, nil, []int{255}), api.ErrNumber, 0)
	fails(t, "of one twice", with(2, []int{0, 0}), api.ErrNumber, 0)
	fails(t, "of one twice, far apart", with(3, []int{0}, []int{1, 2, 0, 1}), api.ErrNumber, 0)
	fails(t, "of the last one twice", with(255, all, append([]int{254}, all[:254]...)), api.ErrNumber, 0)
}

// P11.3, 1: the functions, and what is told ahead of their instructions.
func TestFunctions(t *testing.T) {
	fails(t, "no function", api.Code{Shape: "i"}, api.ErrNumber, 0)
	c := rich(0, just(api.InInt, api.InReturn)...)
	passes(t, "as it is", c)
	c.Funs[0].Free = 1
	fails(t, "function 0 has caught something", c, api.ErrNumber, 0)
	c = rich(0, is(api.InJump, 9))
	fails(t, "a jump", c, api.ErrJump, 0)
	c.Shape = "l"
	fails(t, "no shape, and a jump", c, api.ErrNumber, 0)
	c = rich(0, is(api.InJump, 9))
	c.Handlers[1].Ops = []int{7}
	fails(t, "a handler, and a jump", c, api.ErrNumber, 0)
	c.Handlers[1].Ops, c.Funs[0].Free = nil, 9
	fails(t, "function 0 has caught something, and a jump", c, api.ErrNumber, 0)
}

// P11.3, 2: each operand, as far as there is something, and one more; in function 0 and in others.
func TestOperands(t *testing.T) {
	for _, row := range []struct {
		op, fun, least, many int
		kind                 api.Errno
	}{
		{api.InFree, 0, 0, 0, api.ErrNumber}, {api.InFree, 1, 0, 2, api.ErrNumber}, {api.InFree, 2, 0, 0, api.ErrNumber},
		{api.InSlot, 0, 0, 0, api.ErrNumber}, {api.InSlot, 1, 0, 2, api.ErrNumber}, {api.InSlot, 2, 0, 0, api.ErrNumber},
		{api.InStore, 0, 0, 0, api.ErrNumber}, {api.InStore, 1, 0, 2, api.ErrNumber},
		{api.InPatch, 0, 0, 0, api.ErrNumber}, {api.InPatch, 1, 0, 2, api.ErrNumber},
		{api.InSign, 0, 0, 5, api.ErrNumber}, {api.InSign, 1, 0, 5, api.ErrNumber},
		{api.InMake, 0, 1, 3, api.ErrNumber}, {api.InMake, 2, 1, 3, api.ErrNumber},
		{api.InHandle, 0, 0, 2, api.ErrNumber}, {api.InHandle, 1, 0, 2, api.ErrNumber},
		{api.InDo, 0, 0, 2, api.ErrNumber}, {api.InDo, 1, 0, 2, api.ErrNumber},
		{api.InJump, 0, 0, 6, api.ErrJump}, {api.InJump, 1, 0, 6, api.ErrJump},
		{api.InUnless, 0, 0, 6, api.ErrJump}, {api.InUnless, 1, 0, 6, api.ErrJump},
	} {
		for _, a := range []int{0, 1, 2, 3, 4, 5, 6, 7, 255, 256, 65535} {
			// in the middle of what has a place in which nothing is known, so that all operands are looked at first
			ins := just(api.InReturn, api.InReturn, row.op, api.InInt, api.InDrop, api.InReturn)
			ins[2].A = a
			kind, at := row.kind, 2
			if a >= row.least && a < row.many {
				kind, at = api.ErrFlow, 0
			}
			fails(t, "an operand", rich(row.fun, ins...), kind, 2*row.fun+at)
		}
	}
	fails(t, "InArg", rich(0, just(api.InArg, api.InReturn)...), api.ErrNumber, 0)
	fails(t, "InArg behind others", rich(0, just(api.InInt, api.InDrop, api.InArg, api.InReturn)...), api.ErrNumber, 2)
	passes(t, "InArg", rich(1, just(api.InArg, api.InReturn)...))
	passes(t, "InArg", rich(2, just(api.InArg, api.InReturn)...))
	for _, b := range []int{0, 2, 65535} {
		passes(t, "any B", rich(1, api.Ins{Op: api.InInt}, api.Ins{Op: api.InPatch, A: 1, B: b}, api.Ins{Op: api.InInt}, api.Ins{Op: api.InReturn}))
	}
}

// P11.3, 2: which of several faults is told.
func TestOrder(t *testing.T) {
	fails(t, "operands in order", rich(0, is(api.InInt, 0), is(api.InSign, 5), is(api.InJump, 9)), api.ErrNumber, 1)
	fails(t, "operands in order", rich(0, is(api.InInt, 0), is(api.InJump, 9), is(api.InSign, 5)), api.ErrJump, 1)
	fails(t, "operands ahead of flow", rich(0, is(api.InDrop, 0), is(api.InReturn, 0), is(api.InSign, 5)), api.ErrNumber, 2)
	fails(t, "operands ahead of going on", rich(1, is(api.InUnless, 3), is(api.InInt, 0)), api.ErrJump, 2)
	c := rich(0, is(api.InDrop, 0))
	c.Funs[1].Ins = []api.Ins{is(api.InSign, 5)}
	fails(t, "one function ahead of the next", c, api.ErrFlow, 0)
	c = rich(0, is(api.InInt, 0))
	c.Funs[1].Ins = []api.Ins{is(api.InSign, 5)}
	fails(t, "even where the one goes on", c, api.ErrFlow, 1)
	c = rich(1, is(api.InJump, 7))
	c.Funs[2].Ins = nil
	fails(t, "the second one", c, api.ErrJump, 2)
}

// P11.3: At is counted through all functions.
func TestCounted(t *testing.T) {
	for fun := range 3 {
		for n := range 5 {
			ins := make([]api.Ins, n)
			first := 2 * fun
			fails(t, "it goes on", rich(fun, ins...), api.ErrFlow, first+n)
			fails(t, "too little", rich(fun, append(ins, just(api.InReturn, api.InReturn)...)...), api.ErrFlow, map[bool]int{true: first + n, false: first + n + 1}[n != 1])
			fails(t, "no such sign", rich(fun, append(ins, is(api.InSign, 5))...), api.ErrNumber, first+n)
			fails(t, "no such place", rich(fun, append(ins, is(api.InJump, n+1))...), api.ErrJump, first+n)
		}
	}
	long := rich(0, append(make([]api.Ins, 1), is(api.InReturn, 0))...)
	for range 3000 {
		long.Funs = append(long.Funs, api.CodeFun{Ins: just(api.InInt, api.InInt, api.InPair, api.InReturn)})
	}
	passes(t, "many functions", long)
	long.Funs[3002].Ins = just(api.InInt, api.InPair)
	fails(t, "the last one", long, api.ErrFlow, 6+4*2999+1)
}

// P11.4: the signs, and no others.
func TestSigns(t *testing.T) {
	for n, sign := range []int{code.SignPlus, code.SignMinus, code.SignTimes, code.SignLess, code.SignSame} {
		if sign != n {
			t.Errorf("sign %d is %d", n, sign)
		}
		passes(t, "a sign", of(is(api.InInt, 0), is(api.InInt, 0), is(api.InSign, sign), is(api.InReturn, 0)))
	}
	if code.Signs != 5 {
		t.Errorf("%d signs", code.Signs)
	}
	for _, n := range []int{5, 6, 255, 256, 65535} {
		fails(t, "no sign", of(is(api.InInt, 0), is(api.InInt, 0), is(api.InSign, n), is(api.InReturn, 0)), api.ErrNumber, 2)
	}
}

// Of codes that Encode does not write anything may be said, but it is said.
func TestOthers(t *testing.T) {
	numbers := []int{-1, 0, 1, 2, 5, 65536, math.MinInt, math.MinInt + 1, math.MaxInt, math.MaxInt - 1}
	ops := append([]int{api.Inss, 256}, numbers...)
	for op := range api.Inss {
		ops = append(ops, op)
	}
	for _, n := range numbers {
		for _, op := range ops {
			for _, a := range numbers {
				in := api.Ins{Op: op, A: a, B: n, N: n}
				c := rich(1, in, in, api.Ins{Op: api.InMake, A: 1}, api.Ins{Op: api.InMake, A: 1}, in, api.Ins{Op: api.InReturn})
				code.Check(c)
				checkEncode(t, c)
				c.Funs[1].Free, c.Funs[1].Slots, c.Handlers[0].Ops = n, a, []int{a, n}
				code.Check(c)
				c.Handlers[0].Ops = nil
				code.Check(c)
				checkEncode(t, c)
			}
		}
	}
	code.Check(api.Code{})
	code.Check(api.Code{Shape: "i", Funs: make([]api.CodeFun, 1)})
	code.Check(api.Code{Shape: strings.Repeat("p", 1000000)})
}
