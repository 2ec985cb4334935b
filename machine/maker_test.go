package machine_test

import (
	"math/rand"

	"effectus/api"
)

// The sorts of values of made codes. Functions and resumptions are applied to numbers, and give numbers.
const (
	sNumber   = iota
	sFunction // or a resumption
	sList     // of numbers
	sSorts
)

// maker makes codes that do much before they end, by chance: mostly every value is of the sort that is asked for.
type maker struct {
	random  *rand.Rand
	c       api.Code
	caught  [][]int // the sorts of what each function has caught
	slots   [][]int // the sorts of its slots
	clauses int     // from this function on they are for operations: their argument is a pair
	fun     int     // which one is being made
	ins     []api.Ins
	slips   int // of a hundred values so many are of any sort
}

func newMaker(seed int64) *maker { return &maker{random: rand.New(rand.NewSource(seed))} }

func (m *maker) upTo(n int) int { return m.random.Intn(n + 1) }

func (m *maker) code() api.Code {
	m.slips = max(0, m.upTo(8)-5)
	m.c = api.Code{Shape: []string{"i", "i", "li", "pib", "f", "v"}[m.upTo(5)]}
	for n := range 2 + m.upTo(2) {
		m.c.Ops = append(m.c.Ops, api.CodeOp{Name: "get put say ask"[4*n:][:3], Once: m.upTo(2) == 0})
	}
	for n := range 3 + m.upTo(3) {
		h := api.Handler{Shallow: n > 0 && m.upTo(2) > 0, Ops: m.random.Perm(len(m.c.Ops))}
		if n > 0 { // the first one has all
			h.Ops = h.Ops[:1+m.upTo(3)/3]
		}
		m.c.Handlers = append(m.c.Handlers, h)
	}
	m.clauses = 6 + m.upTo(3)
	for n := range m.clauses + 1 + m.upTo(2) {
		caught := m.sorts(m.upTo(2))
		if n == 0 || n == m.clauses-1 || n == m.clauses-2 {
			caught = nil
		}
		if n == 3 { // it applies what it has caught
			caught = []int{sFunction}
		}
		m.caught, m.slots = append(m.caught, caught), append(m.slots, m.sorts(m.upTo(3)))
		m.c.Funs = append(m.c.Funs, api.CodeFun{Free: len(caught), Slots: len(m.slots[n])})
	}
	for n := range m.c.Funs {
		m.fun, m.ins = n, nil
		m.fill()
		switch n {
		case 0:
			m.main()
		case 1, 2:
			m.inner(n)
		case 3:
			m.put(api.InFree, 0)
			m.value(sNumber, 0)
			m.put(api.InTail, 0)
		case m.clauses - 2:
			m.leaf(0)
		case m.clauses - 1:
			m.leaf(m.upTo(2))
		default:
			m.body(3)
		}
		m.c.Funs[n].Ins = m.ins
	}
	return m.c
}

// leaf puts the instructions of a function that calls no other one, and does so many operations.
func (m *maker) leaf(operations int) {
	m.put(api.InArg, 0)
	for range operations {
		m.put(api.InDo, m.random.Intn(len(m.c.Ops)))
	}
	m.number(1)
	m.put(api.InSign, m.upTo(4))
	m.put(api.InReturn, 0)
}

// main puts the instructions of function 0: all is handled, as far as chance wants it.
func (m *maker) main() {
	if m.upTo(9) == 0 {
		m.body(3)
		return
	}
	m.handler(0, 3)
	m.make(1, 0)
	m.put(api.InHandle, 0)
	m.put(api.InReturn, 0)
}

// inner puts those of a function that handles more.
func (m *maker) inner(n int) {
	h := n * (m.upTo(3) / 3)
	m.handler(h, 3)
	m.make(n+1+m.upTo(m.clauses-n-2), 2)
	m.put(api.InHandle, h)
	if m.upTo(1) == 0 {
		m.put(api.InReturn, 0)
		return
	}
	m.put(api.InDrop, 0)
	m.body(3)
}

func (m *maker) sorts(n int) []int {
	out := make([]int, n)
	for i := range out {
		out[i] = m.random.Intn(sSorts)
	}
	return out
}

func (m *maker) put(op, a int) { m.ins = append(m.ins, api.Ins{Op: op, A: a}) }

func (m *maker) number(n int) { m.ins = append(m.ins, api.Ins{Op: api.InInt, N: n}) }

// fill puts functions into the slots that are to have some.
func (m *maker) fill() {
	for i, sort := range m.slots[m.fun] {
		if sort == sFunction && m.fun != m.clauses-1 {
			m.function(0)
			m.put(api.InStore, i)
		}
	}
}

// body puts instructions behind which the function is over.
func (m *maker) body(depth int) {
	if m.fun >= m.clauses && m.upTo(2) == 0 {
		m.again(depth)
		return
	}
	switch n := m.upTo(9); {
	case depth > 0 && n < 2:
		m.action(depth - 1)
		m.body(depth - 1)
	case depth > 0 && n == 2:
		at := m.unless(depth - 1)
		m.body(depth - 1)
		m.ins[at].A = len(m.ins)
		m.body(depth - 1)
	case n < 6:
		m.value(sFunction, depth-1)
		m.value(sNumber, depth-1)
		m.put(api.InTail, 0)
	default:
		m.value(sNumber, depth)
		m.put(api.InReturn, 0)
	}
}

// again puts the end of a function for an operation that applies its resumption.
func (m *maker) again(depth int) {
	for n := range 1 + m.upTo(2) {
		if n > 0 {
			m.put(api.InDrop, 0)
		}
		m.put(api.InArg, 0)
		m.put(api.InSnd, 0)
		m.value(sNumber, depth-1)
		m.put(api.InCall, 0)
	}
	m.put(api.InReturn, 0)
	if m.upTo(1) == 0 {
		m.ins = m.ins[:len(m.ins)-2]
		m.put(api.InTail, 0)
	}
}

// unless puts a jump whose place is to be told yet.
func (m *maker) unless(depth int) int {
	m.value(sNumber, depth)
	m.put(api.InUnless, 0)
	return len(m.ins) - 1
}

// action puts instructions behind which there are as many values as ahead of them.
func (m *maker) action(depth int) {
	slot := m.random.Intn(4)
	if slot >= len(m.slots[m.fun]) {
		m.value(sNumber, depth)
		m.put(api.InDrop, 0)
		return
	}
	sort := m.slots[m.fun][slot]
	if sort != sFunction || m.upTo(2) > 0 {
		m.value(sort, depth)
		m.put(api.InStore, slot)
		return
	}
	n := m.function(depth)
	m.put(api.InStore, slot)
	for i, sort := range m.caught[n] {
		m.value(sort, depth-1)
		m.ins = append(m.ins, api.Ins{Op: api.InPatch, A: slot, B: i + m.upTo(60)/60})
	}
}

// value puts instructions behind which there is one value more, of a sort.
func (m *maker) value(sort, depth int) {
	if m.upTo(99) < m.slips {
		sort = m.random.Intn(sSorts + 1)
	}
	if m.held(sort, depth) {
		return
	}
	switch sort {
	case sNumber:
		m.numeric(depth)
	case sFunction:
		m.function(depth)
	case sList:
		m.list(depth)
	default:
		m.value(sNumber, 0)
		m.value(sNumber, 0)
		m.put(api.InPair, 0)
	}
}

// held puts a value that is held already, if there is one and chance wants it.
func (m *maker) held(sort, depth int) bool {
	var all [][]api.Ins
	if m.fun > 0 && m.fun < m.clauses && sort == sNumber {
		all = append(all, []api.Ins{{Op: api.InArg}})
	}
	if m.fun >= m.clauses && sort < sList {
		all = append(all, []api.Ins{{Op: api.InArg}, {Op: []int{api.InFst, api.InSnd}[sort]}})
	}
	for i, s := range m.caught[m.fun] {
		if s == sort {
			all = append(all, []api.Ins{{Op: api.InFree, A: i}})
		}
	}
	for i, s := range m.slots[m.fun] {
		if s == sort {
			all = append(all, []api.Ins{{Op: api.InSlot, A: i}})
		}
	}
	wanted := 3
	if sort == sFunction {
		wanted = 8
	}
	if len(all) == 0 || depth > 0 && m.upTo(9) > wanted {
		return false
	}
	m.ins = append(m.ins, all[m.random.Intn(len(all))]...)
	return true
}

func (m *maker) numeric(depth int) {
	n := m.upTo(14)
	switch {
	case depth <= 0 || n == 0:
		m.number(m.upTo(3) - 1)
	case n == 1:
		m.value(sNumber, depth-1)
		m.value(sNumber, depth-1)
		m.put(api.InSign, m.upTo(4))
	case n < 5:
		m.value(sFunction, depth-1)
		m.value(sNumber, depth-1)
		m.put(api.InCall, 0)
	case n < 9 && m.fun > 0 && (m.fun < m.clauses || m.upTo(4) == 0):
		m.value(sNumber, depth-1)
		m.put(api.InDo, m.random.Intn(len(m.c.Ops)))
	case n < 13:
		m.handle(m.random.Intn(len(m.c.Handlers)), depth)
	case n == 13:
		m.value(sList, depth-1)
		m.put(api.InEmpty, 0)
	default:
		at := m.unless(depth - 1)
		m.value(sNumber, depth-1)
		m.put(api.InJump, 0)
		end := len(m.ins) - 1
		m.ins[at].A = len(m.ins)
		m.value(sNumber, depth-1)
		m.ins[end].A = len(m.ins)
	}
}

func (m *maker) handle(n, depth int) {
	m.handler(n, depth)
	if m.fun >= m.clauses && m.upTo(2) > 0 {
		m.make(3, depth-1)
	} else {
		m.function(depth - 1)
	}
	m.put(api.InHandle, n)
}

// handler puts the functions for a handler.
func (m *maker) handler(n, depth int) {
	m.make(min(1+m.random.Intn(2*m.clauses), m.clauses-2), depth-1)
	for range m.c.Handlers[n].Ops {
		m.make(m.clauses+m.random.Intn(len(m.c.Funs)-m.clauses), depth-1)
	}
}

// function puts a function of numbers, and answers which.
func (m *maker) function(depth int) int {
	n := min(1+m.random.Intn(m.clauses+2), m.clauses-1)
	if n <= m.fun && m.fun < m.clauses-1 && m.upTo(9) > 0 {
		n = m.fun + 1 // so that not all that is met is a function that calls itself
	}
	if depth <= 0 {
		n = m.clauses - 1 // it has caught nothing
	}
	m.make(n, depth)
	return n
}

func (m *maker) make(n, depth int) {
	for _, sort := range m.caught[n] {
		m.value(sort, depth-1)
	}
	m.put(api.InMake, n)
}

func (m *maker) list(depth int) {
	if depth <= 0 || m.upTo(1) == 0 {
		m.number(0)
		return
	}
	m.value(sNumber, depth-1)
	m.value(sList, depth-1)
	m.put(api.InCons, 0)
	if m.upTo(2) == 0 {
		m.put(api.InRest, 0)
	}
}
