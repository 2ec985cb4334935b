package code_test

import (
	"encoding/binary"
	"fmt"
	"reflect"
	"strings"
	"testing"

	"effectus/api"
	"effectus/code"
)

// row is an instruction as the chapter and package api tell it: which operands it has, how many values it takes and puts.
type row struct {
	operands    string
	takes, puts int
}

// rowsOf is all instructions; those that take as many values as something has are told with 0.
var rowsOf = map[int]row{
	api.InInt: {"N", 0, 1}, api.InArg: {"", 0, 1}, api.InFree: {"A", 0, 1}, api.InSlot: {"A", 0, 1}, api.InStore: {"A", 1, 0},
	api.InPair: {"", 2, 1}, api.InFst: {"", 1, 1}, api.InSnd: {"", 1, 1},
	api.InCons: {"", 2, 1}, api.InHead: {"", 1, 1}, api.InRest: {"", 1, 1}, api.InEmpty: {"", 1, 1},
	api.InSign: {"A", 2, 1}, api.InMake: {"A", 0, 1}, api.InPatch: {"AB", 1, 0},
	api.InCall: {"", 2, 1}, api.InTail: {"", 2, 0}, api.InReturn: {"", 1, 0},
	api.InJump: {"A", 0, 0}, api.InUnless: {"A", 1, 0}, api.InDrop: {"", 1, 0},
	api.InHandle: {"A", 0, 1}, api.InDo: {"A", 1, 1},
}

// modelEncode writes a code of which all fits, however long it gets.
func modelEncode(c api.Code) string {
	out := []byte("EF1")
	two := func(n int) { out = binary.BigEndian.AppendUint16(out, uint16(n)) }
	one := func(n int) { out = append(out, byte(n)) }
	truth := func(b bool) { one(map[bool]int{true: 1}[b]) }
	two(len(c.Shape))
	out = append(out, c.Shape...)
	one(len(c.Ops))
	for _, op := range c.Ops {
		one(len(op.Name))
		out = append(out, op.Name...)
		truth(op.Once)
	}
	two(len(c.Handlers))
	for _, h := range c.Handlers {
		truth(h.Shallow)
		one(len(h.Ops))
		for _, op := range h.Ops {
			one(op)
		}
	}
	two(len(c.Funs))
	for _, f := range c.Funs {
		two(f.Free)
		two(f.Slots)
		two(len(f.Ins))
		for _, in := range f.Ins {
			one(in.Op)
			for _, operand := range rowsOf[in.Op].operands {
				switch operand {
				case 'A':
					two(in.A)
				case 'B':
					two(in.B)
				default:
					out = binary.BigEndian.AppendUint64(out, uint64(in.N))
				}
			}
		}
	}
	return string(out)
}

// modelFits says whether all of a code fits in its bytes.
func modelFits(c api.Code) bool {
	ok := len(c.Shape) <= 65535 && len(c.Ops) <= 255 && len(c.Handlers) <= 65535 && len(c.Funs) <= 65535
	for _, op := range c.Ops {
		ok = ok && len(op.Name) <= 20
	}
	for _, h := range c.Handlers {
		ok = ok && len(h.Ops) <= 255
		for _, op := range h.Ops {
			ok = ok && 0 <= op && op <= 255
		}
	}
	short := func(n int) bool { return 0 <= n && n <= 65535 }
	for _, f := range c.Funs {
		ok = ok && short(f.Free) && short(f.Slots) && short(len(f.Ins))
		for _, in := range f.Ins {
			r, there := rowsOf[in.Op]
			ok = ok && there && short(in.A) && short(in.B)
			ok = ok && (in.A == 0 || strings.Contains(r.operands, "A")) && (in.B == 0 || strings.Contains(r.operands, "B")) && (in.N == 0 || r.operands == "N")
		}
	}
	return ok
}

// modelReader reads bytes, and panics with the fault that it meets.
type modelReader struct{ all, rest string }

func (m *modelReader) at() int { return len(m.all) - len(m.rest) }

func (m *modelReader) need(ok bool, kind api.Errno, at int) {
	if !ok {
		panic(api.Fault{Kind: kind, At: at})
	}
}

func (m *modelReader) text(n int) string {
	m.need(n <= len(m.rest), api.ErrEnd, len(m.all))
	s := m.rest[:n]
	m.rest = m.rest[n:]
	return s
}

func (m *modelReader) one() int { return int(m.text(1)[0]) }

func (m *modelReader) two() int { return int(binary.BigEndian.Uint16([]byte(m.text(2)))) }

func (m *modelReader) truth() bool {
	at := m.at()
	n := m.one()
	m.need(n <= 1, api.ErrNumber, at)
	return n == 1
}

func (m *modelReader) ins() api.Ins {
	at := m.at()
	in := api.Ins{Op: m.one()}
	r, there := rowsOf[in.Op]
	m.need(there, api.ErrOp, at)
	switch r.operands {
	case "N":
		in.N = int(binary.BigEndian.Uint64([]byte(m.text(8))))
	case "A":
		in.A = m.two()
	case "AB":
		in.A = m.two()
		in.B = m.two()
	}
	return in
}

// modelDecode reads a code.
func modelDecode(s string) (c api.Code, fault api.Fault) {
	defer func() {
		if met, ok := recover().(api.Fault); ok {
			c, fault = api.Code{}, met
		}
	}()
	m := &modelReader{all: s, rest: s}
	m.need(len(s) <= 4000000, api.ErrLong, 0)
	for at, want := range "EF1" {
		m.need(m.text(1) == string(want), api.ErrHead, at)
	}
	c.Shape = m.text(m.two())
	for range m.one() {
		at := m.at()
		n := m.one()
		m.need(n <= 20, api.ErrNumber, at)
		c.Ops = append(c.Ops, api.CodeOp{Name: m.text(n), Once: m.truth()})
	}
	for range m.two() {
		h := api.Handler{Shallow: m.truth()}
		for range m.one() {
			h.Ops = append(h.Ops, m.one())
		}
		c.Handlers = append(c.Handlers, h)
	}
	for range m.two() {
		f := api.CodeFun{Free: m.two(), Slots: m.two()}
		for range m.two() {
			f.Ins = append(f.Ins, m.ins())
		}
		c.Funs = append(c.Funs, f)
	}
	m.need(m.rest == "", api.ErrEnd, m.at())
	return c, api.Fault{}
}

// same says whether two codes are the same; an empty list may be nil.
func same(a, b api.Code) bool {
	return reflect.DeepEqual(empties(a), empties(b))
}

// empties is a code all whose empty lists are nil.
func empties(c api.Code) api.Code {
	out := api.Code{Shape: c.Shape, Ops: append([]api.CodeOp(nil), c.Ops...)}
	for _, h := range c.Handlers {
		out.Handlers = append(out.Handlers, api.Handler{Shallow: h.Shallow, Ops: append([]int(nil), h.Ops...)})
	}
	for _, f := range c.Funs {
		f.Ins = append([]api.Ins(nil), f.Ins...)
		out.Funs = append(out.Funs, f)
	}
	return out
}

// checkDecode holds what Decode answers against the model.
func checkDecode(t *testing.T, s string) (api.Code, api.Fault) {
	t.Helper()
	got, fault := code.Decode(s)
	want, wanted := modelDecode(s)
	if fault != wanted || !same(got, want) {
		t.Fatalf("%s: %v %v, want %v %v", short(s), got, fault, want, wanted)
	}
	if fault.Kind != api.OK && !reflect.DeepEqual(got, api.Code{}) {
		t.Fatalf("%s: %v with fault %v", short(s), got, fault)
	}
	return got, fault
}

// checkEncode holds what Encode answers against the model.
func checkEncode(t *testing.T, c api.Code) (string, api.Errno) {
	t.Helper()
	got, e := code.Encode(c)
	want, wanted := "", api.ErrNumber
	if modelFits(c) {
		want, wanted = modelEncode(c), api.OK
		if len(want) > 4000000 {
			want, wanted = "", api.ErrLong
		}
	}
	if got != want || e != wanted {
		t.Fatalf("%s %v, want %s %v", short(got), e, short(want), wanted)
	}
	return got, e
}

// short is as much of a text as can be read.
func short(s string) string {
	if len(s) > 300 {
		return fmt.Sprintf("%q and so on, %d bytes", s[:300], len(s))
	}
	return fmt.Sprintf("%q", s)
}
