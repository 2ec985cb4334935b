package code_test

import (
	"testing"

	"effectus/api"
	"effectus/code"
)

// checkBytes holds what is said of bytes against the model, and the laws of reading and writing.
func checkBytes(t *testing.T, s string) {
	t.Helper()
	c, fault := checkDecode(t, s)
	if fault.Kind != api.OK {
		checkFirst(t, s, fault)
		return
	}
	again, e := checkEncode(t, c)
	if e != api.OK || again != s {
		t.Fatalf("%s is written again %s, %v", short(s), short(again), e)
	}
	checkCheck(t, c)
}

// checkFirst wants a fault to hang on what stands up to it alone: nothing ahead of it is at fault.
func checkFirst(t *testing.T, s string, fault api.Fault) {
	t.Helper()
	if fault.Kind == api.ErrLong {
		return
	}
	_, ahead := code.Decode(s[:fault.At])
	if fault.Kind == api.ErrEnd && fault.At < len(s) {
		if ahead.Kind != api.OK {
			t.Fatalf("%s: %v, but without what is behind %v", short(s), fault, ahead)
		}
		return
	}
	if ahead != (api.Fault{Kind: api.ErrEnd, At: fault.At}) {
		t.Fatalf("%s: %v, but without what is behind %v", short(s), fault, ahead)
	}
	if fault.Kind == api.ErrEnd {
		return
	}
	if _, with := code.Decode(s[:fault.At+1]); with != fault {
		t.Fatalf("%s: %v, but with that byte as the last one %v", short(s), fault, with)
	}
}

// checkCode wants a code to be written and read again.
func checkCode(t *testing.T, c api.Code) string {
	t.Helper()
	s, e := checkEncode(t, c)
	if e != api.OK {
		return ""
	}
	again, fault := checkDecode(t, s)
	if fault.Kind != api.OK || !same(again, c) {
		t.Fatalf("%+v is read again %+v, %v", c, again, fault)
	}
	return s
}

// TestMade: codes that can be run are written, read again, and pass; those of which one thing was changed are as the model says.
func TestMade(t *testing.T) {
	told := map[api.Errno]int{}
	for seed := range int64(1500) {
		m := newMaker(seed)
		c := m.code()
		checkCode(t, c)
		if fault := checkCheck(t, c); fault.Kind != api.OK {
			t.Fatalf("%+v: %v", c, fault)
		}
		for range 20 {
			spoilt := m.spoil(c)
			checkCode(t, spoilt)
			told[checkCheck(t, spoilt).Kind]++
		}
	}
	t.Log(told)
	for _, kind := range []api.Errno{api.OK, api.ErrNumber, api.ErrJump, api.ErrFlow} {
		if told[kind] < 300 {
			t.Errorf("%v is told %d times", kind, told[kind])
		}
	}
}

// TestMadeBytes: bytes of codes that can be run, cut off, and with bytes that are changed, left out, or put in.
func TestMadeBytes(t *testing.T) {
	told := map[api.Errno]int{}
	for seed := range int64(300) {
		m := newMaker(seed)
		s, _ := code.Encode(m.code())
		checkBytes(t, s)
		for range 100 {
			at := m.random.Intn(len(s))
			b := string([]byte{byte(m.random.Intn(256) >> m.upTo(8))})
			changed := []string{s[:at], s[:at] + b + s[at+1:], s[:at] + s[at+1:], s[:at] + b + s[at:], s + b}[m.upTo(4)]
			checkBytes(t, changed)
			_, fault := code.Decode(changed)
			told[fault.Kind]++
		}
	}
	t.Log(told)
	for _, kind := range []api.Errno{api.OK, api.ErrHead, api.ErrEnd, api.ErrNumber, api.ErrOp} {
		if told[kind] < 200 {
			t.Errorf("%v is told %d times", kind, told[kind])
		}
	}
}

// FuzzBytes: whatever the bytes are, all is as the model says.
func FuzzBytes(f *testing.F) {
	for seed := range int64(20) {
		s, _ := code.Encode(newMaker(seed).code())
		f.Add([]byte(s))
	}
	f.Fuzz(func(t *testing.T, bytes []byte) {
		if len(bytes) < 2000 {
			checkBytes(t, string(bytes))
		}
	})
}
