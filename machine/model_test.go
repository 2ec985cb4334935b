package machine_test

import (
	"fmt"
	"strings"

	"effectus/api"
)

// modelValue is a number, or refers to a thing.
type modelValue struct {
	to *modelThing
	n  int
}

// modelThing is a thing as the chapter tells it; a resumption has segments in the place of fields.
type modelThing struct {
	kind, tag int
	fields    []modelValue
	applied   bool
	segments  []modelSegment
}

type modelSegment struct {
	tag   *modelThing
	calls []modelCall
}

type modelCall struct {
	function, argument modelValue
	place              int
	slots, values      []modelValue
}

// model is a machine as the chapter tells it: an instruction is done on a copy of the stack, which is the machine's own only when nothing stood against it.
type model struct {
	code     api.Code
	cells    int
	segments []modelSegment
	outcome  api.Outcome
	work     []modelSegment // the copy
	made     int            // cells of the new things of the instruction
	behind   []func()       // what is changed in things when the instruction was done
}

// stop ends an instruction early.
type stop struct{ kind int }

func newModel(c api.Code, cells int) *model {
	m := &model{code: c, cells: cells}
	m.segments = []modelSegment{{calls: []modelCall{{slots: make([]modelValue, c.Funs[0].Slots)}}}}
	return m
}

func copied(segments []modelSegment) []modelSegment {
	var out []modelSegment
	for _, s := range segments {
		var calls []modelCall
		for _, c := range s.calls {
			c.slots = append([]modelValue{}, c.slots...)
			c.values = append([]modelValue{}, c.values...)
			calls = append(calls, c)
		}
		out = append(out, modelSegment{s.tag, calls})
	}
	return out
}

// live is how many cells the things take that are reached.
func (m *model) live() int { return reached(m.segments) }

func reached(segments []modelSegment) int {
	seen := map[*modelThing]bool{}
	cells := 0
	var value func(modelValue)
	var all func([]modelSegment)
	value = func(v modelValue) {
		if v.to == nil || seen[v.to] {
			return
		}
		seen[v.to] = true
		cells += v.to.size()
		for _, f := range v.to.fields {
			value(f)
		}
		all(v.to.segments)
	}
	all = func(segments []modelSegment) {
		for _, s := range segments {
			value(modelValue{to: s.tag})
			for _, c := range s.calls {
				for _, v := range append([]modelValue{c.function, c.argument}, append(c.slots, c.values...)...) {
					value(v)
				}
			}
		}
	}
	all(segments)
	return cells
}

// size is how many cells a thing takes.
func (x *modelThing) size() int {
	if x.kind != api.ObRes {
		return 1 + len(x.fields)
	}
	cells := 1 + 1 + 1
	for _, s := range x.segments {
		cells += 1 + 1
		for _, c := range s.calls {
			cells += 1 + 1 + 1 + len(c.slots) + 1 + len(c.values)
		}
	}
	return cells
}

// step does one instruction, and answers how many it did.
func (m *model) step() int {
	if m.outcome.Kind != api.Going {
		return 0
	}
	m.work, m.made, m.behind = copied(m.segments), 0, nil
	m.outcome.Kind = m.instruction()
	if m.outcome.Kind == api.Wrong || m.outcome.Kind == api.Memory {
		return 0
	}
	for _, change := range m.behind {
		change()
	}
	m.segments = m.work
	m.outcome.Steps++
	return 1
}

// instruction does what comes next in the copy, and answers how the machine stands then.
func (m *model) instruction() (kind int) {
	defer func() {
		if r := recover(); r != nil {
			s, ok := r.(stop)
			if !ok {
				panic(r)
			}
			kind = s.kind
		}
	}()
	c := m.inner()
	in := m.code.Funs[number(c.function)].Ins[c.place]
	c.place++
	m.do(c, in)
	if m.calls() > api.MaxCalls {
		return api.Memory
	}
	return api.Going
}

func number(function modelValue) int {
	if function.to == nil {
		return 0
	}
	return function.to.tag
}

func (m *model) calls() int {
	n := 0
	for _, s := range m.work {
		n += len(s.calls)
	}
	return n
}

// last is the innermost segment.
func (m *model) last() *modelSegment { return &m.work[len(m.work)-1] }

// inner is the innermost call; nil, if the innermost segment has none.
func (m *model) inner() *modelCall {
	s := m.last()
	if len(s.calls) == 0 {
		return nil
	}
	return &s.calls[len(s.calls)-1]
}

func (c *modelCall) put(v modelValue) { c.values = append(c.values, v) }

func (c *modelCall) take(n int) []modelValue {
	at := len(c.values) - n
	taken := c.values[at:]
	c.values = c.values[:at:at]
	return taken
}

func (c *modelCall) one() modelValue { return c.take(1)[0] }

// wants ends the instruction as Wrong, if something is not as asked.
func wants(ok bool) {
	if !ok {
		panic(stop{api.Wrong})
	}
}

func is(v modelValue, kinds ...int) bool {
	for _, kind := range kinds {
		if v.to != nil && v.to.kind == kind {
			return true
		}
	}
	return false
}

// new is a new thing; Memory, if what was reached when the instruction began leaves no room for all that it makes.
func (m *model) new(x *modelThing) modelValue {
	m.made += x.size()
	if m.live()+m.made > m.cells {
		panic(stop{api.Memory})
	}
	return modelValue{to: x}
}

func (m *model) do(c *modelCall, in api.Ins) {
	switch in.Op {
	case api.InInt:
		c.put(modelValue{n: in.N})
	case api.InArg:
		c.put(c.argument)
	case api.InFree:
		c.put(c.function.to.fields[in.A])
	case api.InSlot:
		c.put(c.slots[in.A])
	case api.InStore:
		c.slots[in.A] = c.one()
	case api.InDrop:
		c.one()
	case api.InPair, api.InCons, api.InMake:
		m.build(c, in)
	case api.InFst, api.InSnd, api.InHead, api.InRest:
		v := c.one()
		wants(is(v, []int{api.ObPair, api.ObCons}[(in.Op-api.InFst)/3]))
		c.put(v.to.fields[(in.Op-api.InFst)%3])
	case api.InEmpty:
		v := c.one()
		wants(v == modelValue{} || is(v, api.ObCons))
		c.put(modelValue{n: map[bool]int{v.to == nil: 1}[true]})
	case api.InSign:
		two := c.take(2)
		wants(two[0].to == nil && two[1].to == nil)
		c.put(modelValue{n: modelSign(in.A, two[0].n, two[1].n)})
	case api.InPatch:
		v, f := c.one(), c.slots[in.A]
		wants(is(f, api.ObFun) && in.B < len(f.to.fields))
		m.behind = append(m.behind, func() { f.to.fields[in.B] = v })
	case api.InJump:
		c.place = in.A
	case api.InUnless:
		v := c.one()
		wants(v.to == nil)
		if v.n != 1 {
			c.place = in.A
		}
	default:
		m.flow(c, in)
	}
}

func (m *model) build(c *modelCall, in api.Ins) {
	x := &modelThing{kind: api.ObPair}
	n := 2
	switch in.Op {
	case api.InCons:
		x.kind = api.ObCons
	case api.InMake:
		x.kind, x.tag, n = api.ObFun, in.A, m.code.Funs[in.A].Free
	}
	x.fields = append(x.fields, c.take(n)...)
	c.put(m.new(x))
}

func modelSign(sign, a, b int) int {
	is := map[bool]int{true: 1}
	return []int{int(uint64(a) + uint64(b)), int(uint64(a) - uint64(b)), int(uint64(a) * uint64(b)), is[a < b], is[a == b]}[sign]
}

// flow does an instruction behind which another call may be the innermost one.
func (m *model) flow(c *modelCall, in api.Ins) {
	switch in.Op {
	case api.InCall, api.InTail:
		two := c.take(2)
		wants(is(two[0], api.ObFun, api.ObRes))
		if in.Op == api.InTail {
			m.pop()
		}
		if two[0].to.kind == api.ObFun {
			m.call(two[0], two[1])
		} else {
			m.resume(two[0].to, two[1])
		}
	case api.InReturn:
		v := c.one()
		m.pop()
		m.give(v)
	case api.InHandle:
		n := 1 + len(m.code.Handlers[in.A].Ops)
		taken := c.take(n + 1)
		wants(is(taken[n], api.ObFun))
		handler := m.new(&modelThing{kind: api.ObHandler, tag: in.A, fields: append([]modelValue{}, taken[:n]...)})
		m.work = append(m.work, modelSegment{tag: handler.to})
		m.call(taken[n], modelValue{})
	case api.InDo:
		m.ask(c.one(), in.A)
	}
}

func (m *model) pop() {
	s := m.last()
	s.calls = s.calls[:len(s.calls)-1]
}

func (m *model) call(function, argument modelValue) {
	wants(is(function, api.ObFun))
	s := m.last()
	s.calls = append(s.calls, modelCall{function: function, argument: argument, slots: make([]modelValue, m.code.Funs[function.to.tag].Slots)})
}

// give gives a value back.
func (m *model) give(v modelValue) {
	if c := m.inner(); c != nil {
		c.put(v)
		return
	}
	if len(m.work) == 1 {
		m.outcome.Value = m.shown(v)
		panic(stop{api.Done})
	}
	tag := m.last().tag
	m.work = m.work[:len(m.work)-1]
	if tag != nil {
		m.call(tag.fields[0], v)
		return
	}
	m.give(v)
}

// ask does an operation.
func (m *model) ask(x modelValue, op int) {
	for at := len(m.work) - 1; at > 0; at-- {
		tag := m.work[at].tag
		if tag == nil {
			continue
		}
		handler := m.code.Handlers[tag.tag]
		for i, has := range handler.Ops {
			if has != op {
				continue
			}
			res := m.new(m.resumption(op, m.work[at:], handler.Shallow))
			m.work = m.work[:at]
			m.call(tag.fields[i+1], m.new(&modelThing{kind: api.ObPair, fields: []modelValue{x, res}}))
			return
		}
	}
	panic(stop{api.Wrong})
}

func (m *model) resumption(op int, segments []modelSegment, shallow bool) *modelThing {
	x := &modelThing{kind: api.ObRes, tag: op}
	for i, s := range copied(segments) {
		if shallow && i == 0 {
			s.tag = nil
		}
		if s.tag != nil || len(s.calls) > 0 {
			x.segments = append(x.segments, s)
		}
	}
	return x
}

func (m *model) resume(x *modelThing, v modelValue) {
	if op := m.code.Ops[x.tag]; op.Once && x.applied {
		m.outcome.Op = op.Name
		panic(stop{api.Spent})
	}
	m.behind = append(m.behind, func() { x.applied = true })
	m.work = append(m.work, copied(x.segments)...)
	m.inner().put(v)
}

// shown is the text of a value; all of it, and then what there may be of it.
func (m *model) shown(v modelValue) string {
	text, rest := shownBy(v, m.code.Shape)
	if rest != "" {
		panic("the shape goes on: " + rest)
	}
	if len(text) > api.MaxShown {
		return text[:api.MaxShown] + "..."
	}
	return text
}

// shownBy is the text of a value by the first shape of a text, and what is behind that shape.
func shownBy(v modelValue, shape string) (string, string) {
	rest := shape[1:]
	switch shape[0] {
	case 'i':
		if v.to != nil {
			return "?", rest
		}
		return fmt.Sprint(v.n), rest
	case 'b':
		return fmt.Sprint(v == modelValue{n: 1}), rest
	case 'u':
		return "()", rest
	case 'f':
		return "fn", rest
	case 'l':
		return shownList(v, rest)
	case 'p':
		one, two := modelValue{}, modelValue{}
		if is(v, api.ObPair) {
			one, two = v.to.fields[0], v.to.fields[1]
		}
		first, rest := shownBy(one, rest)
		second, rest := shownBy(two, rest)
		if is(v, api.ObPair) {
			return "(" + first + ", " + second + ")", rest
		}
		return "?", rest
	}
	return "?", rest
}

func shownList(v modelValue, shape string) (string, string) {
	_, rest := shownBy(modelValue{}, shape)
	if v != (modelValue{}) && !is(v, api.ObCons) {
		return "?", rest
	}
	var parts []string
	for ; is(v, api.ObCons); v = v.to.fields[1] {
		one, _ := shownBy(v.to.fields[0], shape)
		parts = append(parts, one)
	}
	return "[" + strings.Join(parts, ", ") + "]", rest
}
