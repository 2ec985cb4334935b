package trees_test

import (
	"fmt"
	"strings"
	"testing"

	"effectus/api"
)

// manyThrough: operations that are done within many handlers of many clauses, which all let them through.
// What is never done (n is not below 0) makes the row of f one without a variable: so what is called within the handler can be f.
func manyThrough(clauses, handlers, dones, times int, last string) string {
	ops, own := "", ""
	for i := range clauses {
		ops += fmt.Sprintf("op many o%d:int=>int ", i)
		own += fmt.Sprintf("|o%d v k=>1", i)
	}
	inner := strings.Repeat("do z(", dones) + "i" + strings.Repeat(")", dones)
	return ops + "op " + last + " z:int=>int op many same:(unit-{z}->int)=>int def rec loop i=if i<1 then 0 else(" + inner + ";loop(i-1)) " +
		fmt.Sprintf("def rec nest n f=let g=f in if n<0 then do same f else if n<1 then g()else nest(n-1)(fn u=>handle g()with{return x=>x%s}) ", own) +
		fmt.Sprintf("main=handle nest %d (fn u=>loop %d)with{return x=>x|z v k=>k v|same v k=>1}", handlers, times)
}

// TestManyThrough: what an operation takes on its way through handlers does not grow with their clauses.
func TestManyThrough(t *testing.T) {
	const handlers, dones, times = 200, 50, 3
	none := checkTree(t, manyThrough(0, handlers, dones, times, "once"), 100000)
	for _, row := range []struct {
		clauses, most int // how much more an operation takes at most, for a handler that it goes through
	}{{1, 4}, {2, 8}, {7, 16}, {64, 28}, {70, 32}} {
		for _, last := range []string{"once", "many"} {
			many := checkTree(t, manyThrough(row.clauses, handlers, dones, times, last), 100000)
			if more := many.pure.Steps - none.pure.Steps; more > handlers*dones*times*row.most {
				t.Errorf("%d clauses: %v, without %v", row.clauses, many, none)
			}
		}
	}
}

// TestManyWait: operations within calls that wait for one another; and calls that do so within what is gone on with again and again.
func TestManyWait(t *testing.T) {
	for _, text := range []string{
		"op once a:int=>int def rec f n=if n<1 then 0 else do a n+f(n-1) main=handle f 300 with{return x=>x|a v k=>k v}",
		"op once a:int=>int def rec f n=if n<1 then 0 else f(n-1)+do a n main=handle f 300 with{return x=>x|a v k=>k v}",
		"op once a:int=>int def rec f n=if n<1 then 0 else 1+f(do a n-1) main=handle f 300 with{return x=>x|a v k=>k v+1}",
		"op many a:int=>int def rec f n=if n<1 then do a 0+do a 0+do a 0+do a 0 else 1+f(n-1) main=handle f 100 with{return x=>x|a v k=>k 1+k 2+k 3}",
		"op many a:int=>bool def rec f n=if n<1 then 1 else if do a n then f(n-1)else 1+f(n-1) main=handle f 8 with{return x=>x|a v k=>k true+k false}",
		"op once a:unit=>int def rec serve n f=shallow f()with{return x=>x|a u k=>serve(n+1)(fn v=>k n)} def rec f n=if n<1 then 0 else do a()+f(n-1) main=serve 0 (fn u=>f 200)",
		"op many a:int=>int def rec f n=if n<1 then do a 1 else 1+f(n-1) main=(handle f 100 with{return x=>fn n=>x*n|a v k=>fn n=>k v n+k v(n+1)+k v 3})1",
	} {
		if c := checkTree(t, text, api.MaxFuel); c.text.Kind != api.Done {
			t.Errorf("%s: %v", text, c)
		}
	}
}

// TestManyParameters: a function with as many parameters as there is room for takes no more steps for its last argument than one with few.
func TestManyParameters(t *testing.T) {
	last := func(parameters int) int {
		text := "def f "
		for i := range parameters {
			text += fmt.Sprintf("x%d ", i)
		}
		text += "=x0 main=let g=f" + strings.Repeat(" 1", parameters-1) + " in "
		calls := checkTree(t, text+"g 1;g 1;g 1;g 1;g 1;g 1", 10000)
		return calls.pure.Steps - checkTree(t, text+"g 1;g 1;g 1", 10000).pure.Steps
	}
	if few, many := last(2), last(100); few != many {
		t.Errorf("%d steps for some calls of few parameters, %d of many", few, many)
	}
}

// TestManyValues: a calm function that is a value in many places is made one in few.
func TestManyValues(t *testing.T) {
	many := strings.Repeat("f,", 100)
	for _, text := range []string{
		"def f a b c d e=a main=([" + many + "f],fn g=>g 1)", "def rec f a b c d e=([" + many + "f];a) main=fn g=>g 1", "def rec f a b c d e=([" + many + "f];1) def g h=([" + many + "f],h 1) main=(g(fn x=>f 1 2 3 4 5),fn x=>[" + many + "f])",
	} {
		if c := checkTree(t, text, 10000); c.text.Kind != api.Done {
			t.Errorf("%.60s..: %v", text, c)
		}
	}
}

// TestLongRows: terms that are as deep as a text has room for, and do something in the innermost place, or in all.
func TestLongRows(t *testing.T) {
	for _, row := range []struct {
		ahead, part, behind string
		times               int
	}{
		{"", "1+", "1", 1400}, {"do a 1", "+1", "", 1400}, {"do a 1", "+do a 1", "", 350}, {"", "1::", "[do a 1]", 900}, {"[", "do a 1,", "2]", 350}, {"", "do a(", "1", api.MaxDepth - 4}, {"", "f(", "do a 1", api.MaxDepth - 4}, {"", "(fn x=>do a x)(", "1", api.MaxDepth/2 - 3},
		{"", "let x=do a 1 in ", "x", 170}, {"", "let f x=do a x in ", "f 1", 150}, {"", "let f x=x in ", "do a(f 1)", api.MaxDepth - 4}, {"", "do a 1;", "2", api.MaxDepth - 4}, {"", "if do a 1<2 then 1 else ", "2", 110}, {"", "handle 1+do b 1 with{return x=>", "do a 1", 60},
	} {
		closing := strings.Repeat(")", row.times*(strings.Count(row.part, "(")-strings.Count(row.part, ")"))) + strings.Repeat("|b v k=>k v}", row.times*strings.Count(row.part, "{"))
		text := "op once a:int=>int op many b:int=>int def f x=x main=handle(" + row.ahead + strings.Repeat(row.part, row.times) + row.behind + closing + ")with{return x=>x|a v k=>k v}"
		if c := checkTree(t, text, 100000); c.text.Kind != api.Done {
			t.Errorf("%.60s..: %v", text, c)
		}
	}
}

// TestWithinOneAnother: functions within functions, all of them calm or none, and all of them values: no term is made twice.
func TestWithinOneAnother(t *testing.T) {
	const times = 75
	for last, part := range map[string]string{"1": "let rec f%d x=%s in(f%d;f%d x)", "do a 1": "let rec f%d x=%s in(f%d;f%d x)", "x+1": "let f%d x=%s in(f%d,f%d x);2"} {
		body := last
		for i := range times {
			body = fmt.Sprintf(part, i, body, i, i)
		}
		text := "op many a:int=>int def f x=" + body + " main=handle f 1 with{return x=>x|a v k=>k v}"
		if c := checkTree(t, text, 100000); c.text.Kind != api.Done || c.pure.Steps > 40*c.text.Steps {
			t.Errorf("%.60s..: %v", text, c)
		}
	}
}

// TestManyClauses: each of as many operations as there is room for finds its own clause.
func TestManyClauses(t *testing.T) {
	ops, clauses, names := "", "", 0
	for ; len(ops)+len(clauses) < api.MaxText-200; names++ {
		ops += fmt.Sprintf("op once o%d:int=>int ", names)
		clauses = fmt.Sprintf("|o%d v k=>k %d", names, 2*names) + clauses
	}
	for i := range names {
		text := fmt.Sprintf("%smain=handle(handle do o%d 1 with{return x=>x+1|o%d v k=>k(1+do o%d 1)})with{return x=>x%s}", ops, i, names/2, i, clauses)
		want := fmt.Sprint(2*i + 1)
		if i == names/2 {
			want = fmt.Sprint(2*i + 2)
		}
		if c := checkTree(t, text, 100); c.pure.Value != want {
			t.Errorf("o%d: %v, want %s", i, c, want)
		}
	}
}
