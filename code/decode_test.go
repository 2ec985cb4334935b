package code_test

import (
	"strings"
	"testing"
	"unsafe"

	"effectus/api"
	"effectus/code"
)

// bytesOf has one of all that bytes are made of.
func bytesOf(t *testing.T) string {
	t.Helper()
	s, e := code.Encode(api.Code{
		Shape:    "pib",
		Ops:      []api.CodeOp{{Name: "get", Once: true}, {Name: "a_name_of_twenty_byte"[:20]}},
		Handlers: []api.Handler{{Ops: []int{1, 0}}, {Shallow: true}},
		Funs: []api.CodeFun{
			{Slots: 2, Ins: []api.Ins{{Op: api.InInt, N: -5}, {Op: api.InPatch, A: 1, B: 2}, {Op: api.InJump, A: 3}, {Op: api.InReturn}}},
			{Free: 300},
			{Free: 1, Slots: 1, Ins: []api.Ins{{Op: api.InArg}}},
		},
	})
	if e != api.OK {
		t.Fatal(e)
	}
	return s
}

// faulty wants a fault, and an empty code.
func faulty(t *testing.T, s string, kind api.Errno, at int) {
	t.Helper()
	c, fault := code.Decode(s)
	if fault != (api.Fault{Kind: kind, At: at}) || !same(c, api.Code{}) {
		t.Errorf("%s: %+v %v, want %v at %d", short(s), c, fault, kind, at)
	}
}

// P11.2: the first three bytes.
func TestHead(t *testing.T) {
	faulty(t, "", api.ErrEnd, 0)
	faulty(t, "E", api.ErrEnd, 1)
	faulty(t, "EF", api.ErrEnd, 2)
	faulty(t, "EF1", api.ErrEnd, 3)
	faulty(t, "F", api.ErrHead, 0)
	faulty(t, "e", api.ErrHead, 0)
	faulty(t, "EE", api.ErrHead, 1)
	faulty(t, "FE", api.ErrHead, 0)
	faulty(t, "EF\x01", api.ErrHead, 2)
	faulty(t, "EF2", api.ErrHead, 2)
	faulty(t, "E?2", api.ErrHead, 1)
	s := bytesOf(t)
	for at := range 3 {
		faulty(t, s[:at]+"\xff"+s[at+1:], api.ErrHead, at)
	}
}

// P11.2: all that ends early does so at its length; what goes on does so at the first byte behind.
func TestEnds(t *testing.T) {
	s := bytesOf(t)
	for n := range len(s) {
		faulty(t, s[:n], api.ErrEnd, n)
	}
	for _, more := range []string{"\x00", "E", "\xff\xff", s} {
		faulty(t, s+more, api.ErrEnd, len(s))
	}
	const nothing = "EF1\x00\x00\x00\x00\x00\x00\x00"
	for n := range len(nothing) {
		faulty(t, nothing[:n], api.ErrEnd, n)
	}
	faulty(t, nothing+"\x00", api.ErrEnd, 10)
	faulty(t, "EF1\x00\x05iiii", api.ErrEnd, 9)
	faulty(t, "EF1\xff\xff", api.ErrEnd, 5)
	faulty(t, "EF1\x00\x00\x01\x14nineteen_bytes_long", api.ErrEnd, 26)
	faulty(t, "EF1\x00\x00\x00\xff\xff\x00", api.ErrEnd, 9)
	faulty(t, "EF1\x00\x00\x00\x00\x01\x01\xff\x00\x00", api.ErrEnd, 12)
	faulty(t, "EF1\x00\x00\x00\x00\x00\xff\xff\x00\x00\x00\x00\x00\x00\x00", api.ErrEnd, 17)
	faulty(t, "EF1\x00\x00\x00\x00\x00\x00\x01\x00\x00\x00\x00\xff\xff\x11", api.ErrEnd, 17)
}

// P11.2: the length of a name.
func TestNameLengths(t *testing.T) {
	for n := range 256 {
		s := "EF1\x00\x00\x01" + string([]byte{byte(n)}) + strings.Repeat("n", n) + "\x01\x00\x00\x00\x00"
		if n > 20 {
			faulty(t, s, api.ErrNumber, 6)
			faulty(t, s[:7], api.ErrNumber, 6)
			continue
		}
		c, fault := code.Decode(s)
		if fault != (api.Fault{}) || len(c.Ops) != 1 || c.Ops[0] != (api.CodeOp{Name: strings.Repeat("n", n), Once: true}) {
			t.Errorf("%d bytes: %+v %v", n, c, fault)
		}
	}
	faulty(t, "EF1\x00\x00\x02\x01a\x00\x15", api.ErrNumber, 9)
}

// P11.2: the bytes that have to be 0 or 1.
func TestTruths(t *testing.T) {
	for b := range 256 {
		once := "EF1\x00\x00\x01\x02ab" + string([]byte{byte(b)}) + "\x00\x00\x00\x00"
		shallow := "EF1\x00\x00\x00\x00\x01" + string([]byte{byte(b)}) + "\x00\x00\x00"
		if b > 1 {
			faulty(t, once, api.ErrNumber, 9)
			faulty(t, once[:10], api.ErrNumber, 9)
			faulty(t, shallow, api.ErrNumber, 8)
			faulty(t, shallow[:9], api.ErrNumber, 8)
			continue
		}
		if c, fault := code.Decode(once); fault != (api.Fault{}) || c.Ops[0].Once != (b == 1) {
			t.Errorf("%d: %+v %v", b, c, fault)
		}
		if c, fault := code.Decode(shallow); fault != (api.Fault{}) || c.Handlers[0].Shallow != (b == 1) {
			t.Errorf("%d: %+v %v", b, c, fault)
		}
	}
}

// P11.2: the first byte of an instruction.
func TestOps(t *testing.T) {
	const before = "EF1\x00\x01i\x00\x00\x00\x00\x01\x00\x00\x00\x00\x00\x02\x11"
	for op := range 256 {
		s := before + string([]byte{byte(op)})
		if op >= api.Inss {
			faulty(t, s, api.ErrOp, 18)
			faulty(t, s+"\x00\x00", api.ErrOp, 18)
			continue
		}
		width := map[string]int{"": 0, "A": 2, "AB": 4, "N": 8}[rowsOf[op].operands]
		for n := range width {
			faulty(t, s+strings.Repeat("\x00", n), api.ErrEnd, 19+n)
		}
		s += strings.Repeat("\x00", width)
		if c, fault := code.Decode(s); fault != (api.Fault{}) || c.Funs[0].Ins[1] != (api.Ins{Op: op}) {
			t.Errorf("%d: %+v %v", op, c, fault)
		}
		faulty(t, s+"\x11", api.ErrEnd, len(s))
	}
}

// P11.2: of several faults the first from the left is told; too many bytes ahead of all.
func TestFirstFault(t *testing.T) {
	faulty(t, "EF1\x00\x00\x01\x15", api.ErrNumber, 6)
	faulty(t, "EF1\x00\x00\x02\x01a\x02\x15", api.ErrNumber, 8)
	faulty(t, "EF1\x00\x00\x00\x00\x01\x02", api.ErrNumber, 8)
	faulty(t, "EF1\x00\x00\x00\x00\x00\x00\x01\x00\x00\x00\x00\x00\x01\x17\x00", api.ErrOp, 16)
	faulty(t, "XF1\x00", api.ErrHead, 0)
	s := bytesOf(t)
	faulty(t, s+strings.Repeat("\x00", api.MaxCode-len(s)), api.ErrEnd, len(s))
	faulty(t, s+strings.Repeat("\x00", api.MaxCode-len(s)+1), api.ErrLong, 0)
	faulty(t, strings.Repeat("X", api.MaxCode), api.ErrHead, 0)
	faulty(t, strings.Repeat("X", api.MaxCode+1), api.ErrLong, 0)
}

// An answer is new memory, of which no two lists share any: what is put behind one of them is not seen in another.
func TestNewMemory(t *testing.T) {
	s := bytesOf(t)
	c, _ := code.Decode(s)
	for _, text := range []string{c.Shape, c.Ops[0].Name, c.Ops[1].Name} {
		at := uintptr(unsafe.Pointer(unsafe.StringData(text)))
		from := uintptr(unsafe.Pointer(unsafe.StringData(s)))
		if at >= from && at < from+uintptr(len(s)) {
			t.Errorf("%q lies in the bytes", text)
		}
	}
	for i := range c.Funs {
		_ = append(c.Funs[i].Ins, api.Ins{Op: api.InDo, A: 9})
		clear(c.Funs[i].Ins)
	}
	for i := range c.Handlers {
		_ = append(c.Handlers[i].Ops, 77)
		clear(c.Handlers[i].Ops)
	}
	want, _ := modelDecode(s)
	for i := range want.Funs {
		clear(want.Funs[i].Ins)
	}
	for i := range want.Handlers {
		clear(want.Handlers[i].Ops)
	}
	if !same(c, want) {
		t.Errorf("%+v, want %+v", c, want)
	}
	checkDecode(t, s)
}
