package code_test

import (
	"math"
	"strings"
	"testing"

	"effectus/api"
	"effectus/code"
)

// of is a code of one function, which has these instructions.
func of(ins ...api.Ins) api.Code {
	return api.Code{Shape: "i", Funs: []api.CodeFun{{Ins: ins}}}
}

// wants wants bytes, and that they are read again as the code.
func wants(t *testing.T, about string, c api.Code, want string) {
	t.Helper()
	got, e := code.Encode(c)
	if got != want || e != api.OK {
		t.Errorf("%s: %s %v, want %s", about, short(got), e, short(want))
	}
	again, fault := code.Decode(want)
	if fault != (api.Fault{}) || !same(again, c) {
		t.Errorf("%s: read again %+v %v", about, again, fault)
	}
}

// refuses wants no bytes.
func refuses(t *testing.T, about string, c api.Code, want api.Errno) {
	t.Helper()
	if got, e := code.Encode(c); got != "" || e != want {
		t.Errorf("%s: %s %v, want %v", about, short(got), e, want)
	}
}

// P11.1: each part by itself.
func TestParts(t *testing.T) {
	wants(t, "nothing", api.Code{}, "EF1\x00\x00\x00\x00\x00\x00\x00")
	wants(t, "a shape", api.Code{Shape: "pil"}, "EF1\x00\x03pil\x00\x00\x00\x00\x00")
	wants(t, "a text that is no shape", api.Code{Shape: "\x00\xff"}, "EF1\x00\x02\x00\xff\x00\x00\x00\x00\x00")
	wants(t, "operations", api.Code{Ops: []api.CodeOp{{Name: "get", Once: true}, {}, {Name: "\xc3?"}}}, "EF1\x00\x00\x03\x03get\x01\x00\x00\x02\xc3?\x00\x00\x00\x00\x00")
	wants(t, "handlers", api.Code{Handlers: []api.Handler{{}, {Shallow: true, Ops: []int{0, 255, 7}}}}, "EF1\x00\x00\x00\x00\x02\x00\x00\x01\x03\x00\xff\x07\x00\x00")
	wants(t, "functions", api.Code{Funs: []api.CodeFun{{Free: 258, Slots: 65535}, {Slots: 1, Ins: []api.Ins{{Op: api.InReturn}}}}},
		"EF1\x00\x00\x00\x00\x00\x00\x02\x01\x02\xff\xff\x00\x00\x00\x00\x00\x01\x00\x01\x11")
}

// P11.1: each instruction, with its operands and no others.
func TestInstructions(t *testing.T) {
	if len(rowsOf) != api.Inss {
		t.Fatalf("%d of %d instructions", len(rowsOf), api.Inss)
	}
	for op := range api.Inss {
		in, want := api.Ins{Op: op}, string([]byte{byte(op)})
		operands := rowsOf[op].operands
		for _, operand := range operands {
			switch operand {
			case 'A':
				in.A, want = 0x1234, want+"\x12\x34"
			case 'B':
				in.B, want = 0xfe01, want+"\xfe\x01"
			default:
				in.N, want = 0x0102030405060708, want+"\x01\x02\x03\x04\x05\x06\x07\x08"
			}
		}
		wants(t, "an instruction", of(in), "EF1\x00\x01i\x00\x00\x00\x00\x01\x00\x00\x00\x00\x00\x01"+want)
		for _, wrong := range []int{1, -1, 65535, math.MinInt, 256} {
			a, b, n := in, in, in
			a.A, b.B, n.N = wrong, wrong, wrong
			if !strings.Contains(operands, "A") {
				refuses(t, "an A that it does not have", of(a), api.ErrNumber)
			}
			if !strings.Contains(operands, "B") {
				refuses(t, "a B that it does not have", of(b), api.ErrNumber)
			}
			if operands != "N" {
				refuses(t, "an N that it does not have", of(n), api.ErrNumber)
			}
		}
		for _, wrong := range []int{-1, 65536, 65537, 1 << 32, math.MinInt, math.MaxInt} {
			a, b := in, in
			a.A, b.B = wrong, wrong
			refuses(t, "an A that does not fit", of(a), api.ErrNumber)
			refuses(t, "a B that does not fit", of(b), api.ErrNumber)
		}
	}
	for _, op := range []int{api.Inss, api.Inss + 1, 255, 256, 257, -1, -256, math.MinInt, math.MaxInt} {
		refuses(t, "an Op that there is not", of(api.Ins{Op: op}), api.ErrNumber)
		refuses(t, "one behind others", of(api.Ins{Op: api.InArg}, api.Ins{Op: op}), api.ErrNumber)
	}
}

// P11.1: numbers of 8 bytes, in two's complement.
func TestNumbers(t *testing.T) {
	for n, want := range map[int]string{
		0: "\x00\x00\x00\x00\x00\x00\x00\x00", 1: "\x00\x00\x00\x00\x00\x00\x00\x01", -1: "\xff\xff\xff\xff\xff\xff\xff\xff",
		256: "\x00\x00\x00\x00\x00\x00\x01\x00", -256: "\xff\xff\xff\xff\xff\xff\xff\x00", 65536: "\x00\x00\x00\x00\x00\x01\x00\x00",
		math.MaxInt: "\x7f\xff\xff\xff\xff\xff\xff\xff", math.MinInt: "\x80\x00\x00\x00\x00\x00\x00\x00",
	} {
		wants(t, "a number", of(api.Ins{Op: api.InInt, N: n}), "EF1\x00\x01i\x00\x00\x00\x00\x01\x00\x00\x00\x00\x00\x01\x00"+want)
	}
}

// P11.1: as much as fits, and one more.
func TestFits(t *testing.T) {
	name := strings.Repeat("n", 21)
	ops := func(n int) api.Code { return api.Code{Ops: make([]api.CodeOp, n)} }
	handlers := func(n int) api.Code { return api.Code{Handlers: make([]api.Handler, n)} }
	handled := func(n int) api.Code { return api.Code{Handlers: []api.Handler{{}, {Ops: make([]int, n)}}} }
	funs := func(n int) api.Code { return api.Code{Funs: make([]api.CodeFun, n)} }
	ins := func(n int) api.Code { return of(make([]api.Ins, n)...) }
	wants(t, "a name", api.Code{Ops: []api.CodeOp{{Name: name[:20]}}}, "EF1\x00\x00\x01\x14"+name[:20]+"\x00\x00\x00\x00\x00")
	wants(t, "a shape", api.Code{Shape: strings.Repeat("l", 65535)}, "EF1\xff\xff"+strings.Repeat("l", 65535)+"\x00\x00\x00\x00\x00")
	wants(t, "operations", ops(255), "EF1\x00\x00\xff"+strings.Repeat("\x00", 2*255+4))
	wants(t, "handlers", handlers(65535), "EF1\x00\x00\x00\xff\xff"+strings.Repeat("\x00", 2*65535+2))
	wants(t, "what is handled", handled(255), "EF1\x00\x00\x00\x00\x02\x00\x00\x00\xff"+strings.Repeat("\x00", 255+2))
	wants(t, "functions", funs(65535), "EF1\x00\x00\x00\x00\x00\xff\xff"+strings.Repeat("\x00", 6*65535))
	wants(t, "instructions", ins(65535), "EF1\x00\x01i\x00\x00\x00\x00\x01\x00\x00\x00\x00\xff\xff"+strings.Repeat("\x00", 9*65535))
	refuses(t, "a name", api.Code{Ops: []api.CodeOp{{Name: name}}}, api.ErrNumber)
	refuses(t, "a long name", api.Code{Ops: []api.CodeOp{{Name: strings.Repeat("n", 256)}}}, api.ErrNumber)
	for _, more := range []int{65536, 65537, 2 * 65536, api.MaxCode + 1} {
		refuses(t, "a shape", api.Code{Shape: strings.Repeat("l", more)}, api.ErrNumber)
		refuses(t, "handlers", handlers(more), api.ErrNumber)
		refuses(t, "functions", funs(more), api.ErrNumber)
		refuses(t, "instructions", ins(more), api.ErrNumber)
	}
	for _, more := range []int{256, 257, 512, 65536} {
		refuses(t, "operations", ops(more), api.ErrNumber)
		refuses(t, "what is handled", handled(more), api.ErrNumber)
	}
	for _, wrong := range []int{-1, 65536, math.MinInt, math.MaxInt} {
		refuses(t, "Free", api.Code{Funs: []api.CodeFun{{}, {Free: wrong}}}, api.ErrNumber)
		refuses(t, "Slots", api.Code{Funs: []api.CodeFun{{}, {Slots: wrong}}}, api.ErrNumber)
		refuses(t, "an operation's number", api.Code{Handlers: []api.Handler{{Ops: []int{0, wrong}}}}, api.ErrNumber)
	}
	refuses(t, "an operation's number", api.Code{Handlers: []api.Handler{{Ops: []int{256}}}}, api.ErrNumber)
}

// sized is a code of just so many bytes.
func sized(t *testing.T, bytes int) api.Code {
	t.Helper()
	c := api.Code{Shape: "i"}
	great := api.CodeFun{Ins: make([]api.Ins, 65535)} // each takes 9 bytes
	left := bytes - len(modelEncode(c))
	for ; left > 700000; left -= 6 + 9*65535 {
		c.Funs = append(c.Funs, great)
	}
	for left > 0 {
		n := min(left-6, 60000)
		if left-6-n < 6 {
			n = min(n, left-12) // so that another function has room
		}
		f := api.CodeFun{Ins: make([]api.Ins, max(n, 0))}
		for i := range f.Ins {
			f.Ins[i].Op = api.InReturn
		}
		c.Funs = append(c.Funs, f)
		left -= 6 + len(f.Ins)
	}
	if got := len(modelEncode(c)); got != bytes {
		t.Fatalf("%d bytes, want %d", got, bytes)
	}
	return c
}

// P11.1: MaxCode bytes, and one more; what does not fit is told ahead of that.
func TestLong(t *testing.T) {
	whole := sized(t, api.MaxCode)
	wants(t, "MaxCode bytes", whole, modelEncode(whole))
	for _, bytes := range []int{api.MaxCode + 1, api.MaxCode + 2, api.MaxCode + 100, 2 * api.MaxCode} {
		long := sized(t, bytes)
		refuses(t, "too many bytes", long, api.ErrLong)
		last := len(long.Funs) - 1
		kept := long.Funs[last]
		long.Funs[last].Ins = append(append([]api.Ins(nil), kept.Ins...), api.Ins{Op: api.Inss})
		refuses(t, "and an Op that there is not", long, api.ErrNumber)
		long.Funs[last] = api.CodeFun{Slots: -1, Ins: kept.Ins}
		refuses(t, "and a number that does not fit", long, api.ErrNumber)
		long.Funs[last] = kept
		long.Ops = []api.CodeOp{{Name: strings.Repeat("n", 21)}}
		refuses(t, "and a name that does not fit", long, api.ErrNumber)
	}
}

// What is handed over is only read.
func TestOnlyRead(t *testing.T) {
	random := newMaker(1)
	for range 300 {
		c := random.code()
		before := empties(c)
		code.Encode(c)
		code.Check(c)
		if !same(c, before) {
			t.Fatalf("%+v was %+v", c, before)
		}
	}
}
