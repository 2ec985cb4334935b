package code_test

import (
	"runtime"
	"testing"
	"time"

	"effectus/api"
	"effectus/code"
)

// greats are codes of next to MaxCode bytes that are hard to go through.
func greats() map[string]api.Code {
	most := []api.Ins{}
	for range 32767 {
		most = append(most, is(api.InInt, 0), is(api.InDrop, 0))
	}
	most = append(most, is(api.InJump, 0))
	jumps := []api.Ins{}
	for i := range 32766 {
		jumps = append(jumps, is(api.InInt, 0), is(api.InUnless, 65532-2*i))
	}
	jumps = append(jumps, is(api.InInt, 0), is(api.InReturn, 0))
	many := api.Code{Shape: "i", Ops: make([]api.CodeOp, 255)}
	all := make([]int, 255)
	for i := range all {
		all[i] = i
	}
	for range 15000 {
		many.Handlers = append(many.Handlers, api.Handler{Ops: all})
	}
	many.Funs = []api.CodeFun{{Ins: just(api.InInt, api.InReturn)}}
	funs := api.Code{Shape: "i"}
	for range 65535 {
		funs.Funs = append(funs.Funs, api.CodeFun{Ins: just(api.InInt, api.InReturn)})
	}
	return map[string]api.Code{
		"long functions": repeated(most, 12),
		"many jumps":     repeated(jumps, 10),
		"many handlers":  many,
		"many functions": funs,
	}
}

// repeated is a code of so many functions with the same instructions.
func repeated(ins []api.Ins, n int) api.Code {
	c := api.Code{Shape: "i"}
	for range n {
		c.Funs = append(c.Funs, api.CodeFun{Ins: ins})
	}
	return c
}

// TestGreat: great codes are written, read and checked in little time.
func TestGreat(t *testing.T) {
	for about, c := range greats() {
		start := time.Now()
		s, e := code.Encode(c)
		encoded := time.Since(start)
		if e != api.OK || len(s) < api.MaxCode/10 {
			t.Fatalf("%s: %d bytes, %v", about, len(s), e)
		}
		start = time.Now()
		again, fault := code.Decode(s)
		decoded := time.Since(start)
		if fault.Kind != api.OK || !same(again, c) {
			t.Fatalf("%s: %v", about, fault)
		}
		start = time.Now()
		fault = code.Check(c)
		checked := time.Since(start)
		if fault.Kind != api.OK {
			t.Errorf("%s: %v", about, fault)
		}
		t.Log(about, len(s), encoded, decoded, checked)
		if encoded+decoded+checked > 5*time.Second {
			t.Errorf("%s: %v %v %v", about, encoded, decoded, checked)
		}
	}
}

// TestTooGreat: bytes that would be far too many are not written first.
func TestTooGreat(t *testing.T) {
	c := repeated(make([]api.Ins, 65535), 400)
	var before, after runtime.MemStats
	runtime.ReadMemStats(&before)
	refuses(t, "too many bytes", c, api.ErrLong)
	runtime.ReadMemStats(&after)
	if bytes := after.TotalAlloc - before.TotalAlloc; bytes > 10*api.MaxCode {
		t.Errorf("%d bytes were asked for", bytes)
	}
}

// TestLittleMemory: a few bytes that speak of much more don't ask for memory for it.
func TestLittleMemory(t *testing.T) {
	for _, s := range []string{
		"EF1\xff\xff", "EF1\x00\x00\xff", "EF1\x00\x00\x00\xff\xff", "EF1\x00\x00\x00\x00\x00\xff\xff",
		"EF1\x00\x00\x00\x00\x00\x00\x01\xff\xff\xff\xff\xff\xff",
	} {
		var before, after runtime.MemStats
		runtime.ReadMemStats(&before)
		for range 100 {
			faulty(t, s, api.ErrEnd, len(s))
		}
		runtime.ReadMemStats(&after)
		if bytes := after.TotalAlloc - before.TotalAlloc; bytes > 1000000 {
			t.Errorf("%q: %d bytes were asked for", s, bytes)
		}
	}
}
