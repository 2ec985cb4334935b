package emit_test

import (
	"reflect"
	"testing"

	"effectus/api"
	"effectus/core"
	"effectus/emit"
	"effectus/lexer"
)

// texts are programs with all that a text can have.
func texts() []string {
	const head = "op many flip : unit => bool op once get : unit => int op many fail : int => int def rec append a b = case a of [] => b | x :: r => x :: append r b end def not b = if b then false else true main = "
	mains := []string{
		"1", "(1, [true, not true])", "[(fn x y => (x; y)) 1 2, 3]", "let rec f n = if n < 1 then 0 else n * f (n - 1) in f 3 == 6", "fst (snd (1, (2, ())))",
		"handle append [do get ()] (handle [do fail 1] with { return x => x | fail n k => append (k n) (k 2) }) with { return x => x | get u k => k 3 }",
		"handle (do flip (), do flip ()) with { return x => [x] | flip u k => append (k true) (k false) }", "(handle do get () + do get () with { return x => fn s => x | get u k => fn s => k s (s + 1) }) 5",
		"handle (shallow (do get (), do get ()) with { return x => x | get u k => handle k 1 with { return y => y | get u j => (fn v => j v) (do fail 2) } }) with { return x => x | fail n k => case [k] of [] => (0, 0) | j :: l => j n end }",
	}
	for i, main := range mains {
		mains[i] = head + main
	}
	return mains
}

// TestSameCode: how a text is written does not change its code.
func TestSameCode(t *testing.T) {
	for _, text := range texts() {
		tokens, _ := lexer.Tokens(text)
		longer, ahead := "", 0
		for _, token := range tokens {
			longer += text[ahead:token.At] + "\n# remark\n"
			ahead = token.At
		}
		if a, b := emitted(t, text), emitted(t, longer); !reflect.DeepEqual(a, b) {
			t.Errorf("%s: with more blanks it is %v, not %v", text, b, a)
		}
	}
}

// TestNewMemory: no two lists of an answer share memory, and what is done to one answer changes no other.
func TestNewMemory(t *testing.T) {
	for _, text := range texts() {
		first, _ := emit.Emit(text)
		second, _ := emit.Emit(text)
		third, _ := emit.Emit(text)
		if !reflect.DeepEqual(first, second) {
			t.Fatalf("%s: %v, then %v", text, first, second)
		}
		spoil(first)
		if !reflect.DeepEqual(second, third) {
			t.Errorf("%s: %v, was %v", text, second, third)
		}
		for at, times := range places(second) {
			if times != 1 {
				t.Errorf("%s: %v stands in two lists", text, at)
			}
		}
	}
}

// spoil changes all that lists have, and have room for.
func spoil(c api.Code) {
	for _, f := range c.Funs {
		for i := range f.Ins[:cap(f.Ins)] {
			f.Ins[:cap(f.Ins)][i].Op = -1
		}
	}
	for _, h := range c.Handlers {
		for i := range h.Ops[:cap(h.Ops)] {
			h.Ops[:cap(h.Ops)][i] = -1
		}
	}
	clear(c.Ops)
	clear(c.Handlers)
	clear(c.Funs)
}

// places counts in how many lists each place of memory stands.
func places(c api.Code) map[any]int {
	all := map[any]int{}
	for _, f := range c.Funs {
		for i := range f.Ins[:cap(f.Ins)] {
			all[&f.Ins[:cap(f.Ins)][i]]++
		}
	}
	for _, h := range c.Handlers {
		for i := range h.Ops[:cap(h.Ops)] {
			all[&h.Ops[:cap(h.Ops)][i]]++
		}
	}
	return all
}

func FuzzEmit(f *testing.F) {
	for _, text := range texts() {
		f.Add(text)
	}
	f.Fuzz(func(t *testing.T, text string) {
		if _, fault := core.Core(text); fault.Kind != api.OK {
			checkFault(t, text)
			return
		}
		emitted(t, text)
	})
}
