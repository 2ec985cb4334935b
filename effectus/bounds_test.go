package effectus_test

import (
	"fmt"
	"slices"
	"strings"
	"testing"

	"effectus/api"
)

// contexts are what can stand around a number, and is a number then.
var contexts = [][2]string{
	{"", "+1"}, {"", "*2"}, {"", "-1+1"}, {"1+(", ")"}, {"fst(", ",1)"}, {"snd(1,", ")"}, {"same(", ")"}, {"(fn x=>x)(", ")"}, {"(fn f=>f 1)(fn x=>", ")"}, {"do fail(", ")"}, {"do go(", ")"}, {"(", ";1)"}, {"(1;", ")"}, {"(let x=", " in x)"}, {"(let x=1 in ", ")"},
	{"(let rec g x=x in ", ")"}, {"(let g x=x in g(", "))"}, {"(if ", "<1 then 1 else 2)"}, {"(if 1==", " then 1 else 2)"}, {"(case[", "]of[]=>1|x::l=>x end)"}, {"(case ", "::[]of[]=>1|x::l=>x end)"}, {"(handle ", " with{return x=>x})"}, {"(shallow ", " with{return x=>x})"},
	{"(handle 1 with{return x=>", "})"}, {"(handle do go 1 with{return x=>x|go v k=>", "})"},
}

// clauses are contexts within which more can be done than around them: so no function that is called within them has them in itself.
var clauses = [][2]string{{"(handle ", " with{return x=>x|go v k=>k v})"}, {"(shallow ", " with{return x=>x|go v k=>v})"}, {"(handle do go(", ")with{return x=>x|go v k=>k v+1})"}}

// within is a text with a context around it, so often.
func within(context [2]string, text string, times int) string {
	return strings.Repeat(context[0], times) + text + strings.Repeat(context[1], times)
}

// handled is a program whose main is a number, in which fail is not gone on with, and go is.
func handled(defs, main string) string {
	return "op many fail:int=>int op once go:int=>int def same x=x " + defs + "main=handle(" + main + ")with{return x=>x|fail v k=>v|go v k=>k v}"
}

// TestManyBegun: terms that have begun when what they wait for is not gone on with have taken their steps, and do nothing more;
// the code takes an eighth of these steps all the same.
func TestManyBegun(t *testing.T) {
	for _, context := range slices.Concat(clauses, contexts) {
		most := min(2500/len(context[0]+context[1]), api.MaxDepth/3-5)
		if context[0] == "" {
			most = 600 // nothing of it is in brackets
		}
		for _, times := range []int{0, 1, 2, 3, 4, 5, 6, 7, 8, 9, 10, 15, 16, 17, 18, most} {
			checkDone(t, handled("", within(context, "do fail 1", times)))
			checkDone(t, handled("", within(context, "do go 1+do fail 2", times)))
			checkDone(t, handled("", "1+same("+within(context, "do fail(do go 1)", times)+")"))
		}
	}
	for _, context := range contexts {
		for _, times := range []int{1, 7, 8, 9, 40} {
			checkDone(t, handled("def rec f n=if n<1 then do fail 7 else("+within(context, "f(n-1)", times)+")", "f 3"))
		}
	}
}

// TestManyArguments: each argument is one of an application that has begun ahead of all others.
func TestManyArguments(t *testing.T) {
	for _, many := range []int{1, 7, 8, 9, 16, 17, 80} {
		text := "op many get:unit=>" + strings.Repeat("int-{get}->", many) + "int main=handle(do get())" + strings.Repeat(" 1", many) + " with{return x=>x|get u k=>5}"
		if c := checkCode(t, text, 1000); c.code.Value != "5" {
			t.Errorf("%s: %v", text, c)
		}
	}
}

// checkWaiting: a program goes on when just so many expressions wait as may do. It has a number in the place of each N, of which the more wait the greater it is.
func checkWaiting(t *testing.T, program string) {
	t.Helper()
	text := func(n int) string { return strings.ReplaceAll(program, "N", fmt.Sprint(n)) }
	few := waitingOf(text(20))
	each := (waitingOf(text(40)) - few) / 20
	if each == 0 {
		t.Errorf("%s: no more wait", program)
		return
	}
	n := 20 + (mostWaiting-few)/each
	c := checkCode(t, text(n), api.MaxFuel)
	if c.waiting > mostWaiting || c.waiting <= mostWaiting-2*each || c.text.Kind != api.Done || c.code.Kind != api.Done {
		t.Errorf("%s: with %d there wait %d: %v %v", program, n, c.waiting, c.text, c.code)
	}
}

// TestManyWait: calls that wait within one another, in whatever way.
func TestManyWait(t *testing.T) {
	for _, context := range contexts {
		again := within(context, "f(n-1)", 1)
		for _, more := range [][2]string{{"1+(", ")"}, {"(", ")*1"}, {"(handle ", " with{return x=>x})"}, {"fst(handle 1+", " with{return x=>(x,1)})"}} {
			checkWaiting(t, handled("def rec f n=if n<1 then do go 1 else "+within(more, again, 1)+" ", "f N"))
		}
	}
}

// TestManyResumed: resumptions that go on within one another.
func TestManyResumed(t *testing.T) {
	for _, clause := range []string{
		"1+k 1", "k 1+1", "fst(k 1,2)", "snd(1,k 1)", "(let r=k 1 in r)", "(k 1;2)", "same(k 1)", "(fn w=>k w+1)1", "(let j=k in 1+j 1)", "handle k 1 with{return x=>x}", "handle 1+k 1 with{return x=>x}", "shallow k 1 with{return x=>x}", "handle(fst(k,1))1 with{return x=>x}",
		"handle(fn w=>k w)1 with{return x=>x}", "1+(handle k 1 with{return x=>x})", "handle(let j=k in j 1)with{return x=>x|go v j=>j v}", "handle do go 1 with{return x=>x|go v j=>1+k v}", "handle 1 with{return x=>1+k x}", "if k 1<2 then 1 else 2", "case[k 1]of[]=>1|x::l=>x end", "do go(k 1)",
	} {
		loop := "op once go:int=>int op once tick:unit=>int def same x=x def rec loop i=if i<1 then 0 else(do tick();loop(i-1)) "
		checkWaiting(t, loop+"main=handle(handle loop N with{return x=>x|tick u k=>"+clause+"})with{return x=>x|go v k=>k v}")
	}
}

// TestResumedOften: each time that a resumption goes on many calls give their values back, for which no step is taken.
func TestResumedOften(t *testing.T) {
	for _, times := range []int{1, 10, 150} {
		for _, context := range [][2]string{{"1+", ""}, {"fst(", ",1)"}, {"snd(fst((1,", "),1))"}} {
			calls := 470 / (1 + strings.Count(context[0], "(") + strings.Count(context[1], ","))
			checkDone(t, fmt.Sprintf("op many a:int=>int def rec f n=if n<1 then do a 1 else %s main=handle f %d with{return x=>x|a v k=>%s}", within(context, "f(n-1)", 1), calls, within([2]string{"k(", ")"}, "1", times)))
		}
	}
}
