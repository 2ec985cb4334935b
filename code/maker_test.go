package code_test

import (
	"math/rand"
	"strings"

	"effectus/api"
)

// maker makes codes that can be run, by chance.
type maker struct {
	random *rand.Rand
	c      api.Code
	fun    int // which function is being made
	ins    []api.Ins
}

func newMaker(seed int64) *maker {
	return &maker{random: rand.New(rand.NewSource(seed))}
}

func (m *maker) upTo(n int) int { return m.random.Intn(n + 1) }

// code is a code that can be run.
func (m *maker) code() api.Code {
	m.c = api.Code{Shape: m.shape(3)}
	for range m.upTo(4) {
		m.c.Ops = append(m.c.Ops, api.CodeOp{Name: "operation"[:m.upTo(9)], Once: m.upTo(1) == 1})
	}
	for range m.upTo(3) {
		h := api.Handler{Shallow: m.upTo(1) == 1}
		h.Ops = m.random.Perm(len(m.c.Ops))[:m.upTo(len(m.c.Ops))]
		m.c.Handlers = append(m.c.Handlers, h)
	}
	funs := 1 + m.upTo(3)
	for n := range funs {
		f := api.CodeFun{Slots: m.upTo(2)}
		if n > 0 {
			f.Free = m.upTo(3)
		}
		m.c.Funs = append(m.c.Funs, f)
	}
	for n := range funs {
		m.fun, m.ins = n, nil
		m.body(2)
		m.c.Funs[n].Ins = m.ins
	}
	return m.c
}

func (m *maker) shape(depth int) string {
	n := m.upTo(6)
	switch {
	case depth > 0 && n == 5:
		return "l" + m.shape(depth-1)
	case depth > 0 && n == 6:
		return "p" + m.shape(depth-1) + m.shape(depth-1)
	}
	return "ibufv"[n%5 : n%5+1]
}

func (m *maker) put(op, a int) { m.ins = append(m.ins, api.Ins{Op: op, A: a}) }

// body puts instructions behind which the function is over.
func (m *maker) body(depth int) {
	if depth > 0 && m.upTo(2) == 0 {
		at := m.unless(depth - 1)
		m.body(depth - 1)
		m.ins[at].A = len(m.ins)
		m.body(depth - 1)
		return
	}
	if depth > 0 && m.upTo(5) == 0 {
		at := len(m.ins)
		m.action(depth - 1)
		m.put(api.InJump, at)
		return
	}
	m.value(depth)
	if m.upTo(2) == 0 {
		m.value(depth - 1)
		m.put(api.InTail, 0)
		return
	}
	m.put(api.InReturn, 0)
}

// unless puts a jump whose place is to be told yet.
func (m *maker) unless(depth int) int {
	m.value(depth)
	m.put(api.InUnless, 0)
	return len(m.ins) - 1
}

// action puts instructions behind which there are as many values as ahead of them.
func (m *maker) action(depth int) {
	m.value(depth)
	slots := m.c.Funs[m.fun].Slots
	switch n := m.upTo(3); {
	case slots > 0 && n == 0:
		m.put(api.InStore, m.random.Intn(slots))
	case slots > 0 && n == 1:
		m.ins = append(m.ins, api.Ins{Op: api.InPatch, A: m.random.Intn(slots), B: m.upTo(3)})
	default:
		m.put(api.InDrop, 0)
	}
}

// value puts instructions behind which there is one value more.
func (m *maker) value(depth int) {
	if depth <= 0 {
		m.simple()
		return
	}
	switch m.upTo(7) {
	case 0:
		at := m.unless(depth - 1)
		m.value(depth - 1)
		m.put(api.InJump, 0)
		end := len(m.ins) - 1
		m.ins[at].A = len(m.ins)
		m.value(depth - 1)
		m.ins[end].A = len(m.ins)
	case 1:
		m.action(depth - 1)
		m.value(depth - 1)
	case 2, 3:
		m.values(2, depth-1)
		m.put([]int{api.InPair, api.InCons, api.InCall, api.InSign}[m.upTo(3)], 0)
		if last := &m.ins[len(m.ins)-1]; last.Op == api.InSign {
			last.A = m.upTo(4)
		}
	case 4:
		m.values(1, depth-1)
		m.put([]int{api.InFst, api.InSnd, api.InHead, api.InRest, api.InEmpty}[m.upTo(4)], 0)
	case 5:
		m.known(len(m.c.Ops), func(a int) {
			m.values(1, depth-1)
			m.put(api.InDo, a)
		})
	case 6:
		m.known(len(m.c.Handlers), func(a int) {
			m.values(2+len(m.c.Handlers[a].Ops), depth-1)
			m.put(api.InHandle, a)
		})
	default:
		m.known(len(m.c.Funs)-1, func(a int) {
			m.values(m.c.Funs[a+1].Free, depth-1)
			m.put(api.InMake, a+1)
		})
	}
}

func (m *maker) values(n, depth int) {
	for range n {
		m.value(depth)
	}
}

// known puts a value made with one of so many things; a simple one, if there is none.
func (m *maker) known(n int, put func(int)) {
	if n == 0 {
		m.simple()
		return
	}
	put(m.random.Intn(n))
}

// simple puts an instruction that takes nothing.
func (m *maker) simple() {
	f := m.c.Funs[m.fun]
	switch n := m.upTo(3); {
	case n == 0 && m.fun > 0:
		m.put(api.InArg, 0)
	case n == 1 && f.Free > 0:
		m.put(api.InFree, m.random.Intn(f.Free))
	case n == 2 && f.Slots > 0:
		m.put(api.InSlot, m.random.Intn(f.Slots))
	default:
		m.ins = append(m.ins, api.Ins{Op: api.InInt, N: int(m.random.Uint64() >> m.upTo(63))})
	}
}

// spoil changes one thing of a code.
func (m *maker) spoil(c api.Code) api.Code {
	c = empties(c)
	f := &c.Funs[m.random.Intn(len(c.Funs))]
	if len(f.Ins) == 0 {
		return c
	}
	at := m.random.Intn(len(f.Ins))
	switch m.upTo(9) {
	case 0:
		f.Ins = append(f.Ins[:at], f.Ins[at+1:]...)
	case 1:
		f.Ins = append(f.Ins[:at], append([]api.Ins{m.ins[m.random.Intn(len(m.ins))]}, f.Ins[at:]...)...)
	case 2:
		f.Free = m.upTo(2)
	case 3:
		f.Slots = m.upTo(1)
	case 4:
		if len(c.Ops) > 0 {
			c.Ops = c.Ops[1:]
		}
	case 5:
		if len(c.Handlers) > 0 {
			h := &c.Handlers[m.random.Intn(len(c.Handlers))]
			h.Ops = append(h.Ops, m.upTo(4))
		}
	case 6:
		c.Funs = c.Funs[:len(c.Funs)-1]
	case 7:
		c.Shape += "l"[:m.upTo(1)]
	default:
		f.Ins[at] = api.Ins{Op: m.random.Intn(api.Inss)}
		if strings.Contains(rowsOf[f.Ins[at].Op].operands, "A") {
			f.Ins[at].A = m.upTo(9)
		}
	}
	return c
}
