package emit_test

import (
	"fmt"
	"strings"
	"testing"
	"time"

	"effectus/api"
)

// short is the n-th of the shortest names.
func short(n int) string {
	const letters = "ABCDEFGHIJKLMNOPQRSTUVWXYZ"
	name := letters[n%26 : n%26+1]
	if n < 26 {
		return name
	}
	return short(n/26-1) + name
}

// shorts are the first of these names, with a text between each two.
func shorts(n int, between string) string {
	names := make([]string, n)
	for i := range names {
		names[i] = short(i)
	}
	return strings.Join(names, between)
}

// quick: the code of a text as great as one may be is made in no time to speak of, and is not too great.
func quick(t *testing.T, text string) api.Code {
	t.Helper()
	if len(text) > api.MaxText {
		t.Fatalf("%.60s..: %d bytes", text, len(text))
	}
	begun := time.Now()
	c := emitted(t, text)
	if took := time.Since(begun); took > 5*time.Second {
		t.Errorf("%.60s..: %v", text, took)
	}
	return c
}

// TestManyParameters: each of many functions within one another catches the parameters of all those around it.
func TestManyParameters(t *testing.T) {
	const many = 140 // each is a part of the type, and so is each arrow
	text := "def f " + shorts(many, " ") + "=" + shorts(many, "+") + " main=f" + strings.Repeat(" 1", many)
	quick(t, text)
	if o := played(t, text); o.Value != fmt.Sprint(many) {
		t.Errorf("%v", o)
	}
}

// TestManyCaught: the same variables are caught by many functions within one another, which only hand them on.
func TestManyCaught(t *testing.T) {
	const many, between = 190, 370
	text := "main=(fn " + shorts(many, " ") + strings.Repeat(" x", between) + "=>x+" + shorts(many, "+") + ")" + strings.Repeat(" 3", many+between)
	c := quick(t, text)
	if all := c.Funs[len(c.Funs)-1].Free; all != many {
		t.Errorf("%d variables are caught, want %d", all, many)
	}
	if o := played(t, text); o.Value != fmt.Sprint(3*(many+1)) {
		t.Errorf("%v", o)
	}
}

// TestCaughtAlone: a function catches what it asks for, and nothing else; but each of it once.
func TestCaughtAlone(t *testing.T) {
	for text, want := range map[string]int{
		"main=let a=1 in let b=2 in let c=3 in fn x=>x": 0, "main=let a=1 in let b=2 in let c=3 in fn x=>b+b+x*b": 1, "main=let a=1 in let b=2 in let c=3 in fn x=>(c,(a,(c,x)))": 2, "main=let a=1 in fn x=>let b=2 in let rec f y=y in f b": 0, "main=let rec f x=f x in f": 1,
		"main=let a=1 in let rec f x=f(f a) in f": 2,
	} {
		if c := emitted(t, text); c.Funs[1].Free != want {
			t.Errorf("%s: %d variables are caught, want %d", text, c.Funs[1].Free, want)
		}
	}
}

// TestManyClauses: a handler of as many operations as there is room for; each finds its own clause.
func TestManyClauses(t *testing.T) {
	ops, clauses, names := "", "", 0
	for ; len(ops)+len(clauses) < api.MaxText-150; names++ {
		ops += fmt.Sprintf("op once %s:int=>int ", short(names))
		clauses = fmt.Sprintf("|%s v k=>k %d", short(names), 2*names) + clauses
	}
	for i := range names {
		text := fmt.Sprintf("%smain=handle(handle do %s 1 with{return x=>x+1|%s v k=>k(1+do %s 1)})with{return x=>x%s}", ops, short(i), short(names/2), short(i), clauses)
		want := fmt.Sprint(2*i + 1)
		if i == names/2 {
			want = fmt.Sprint(2*i + 2)
		}
		if o := played(t, text); o.Value != want {
			t.Errorf("%s: %v, want %s", short(i), o, want)
		}
	}
}

// TestManyOps: as many operations as there is room for.
func TestManyOps(t *testing.T) {
	ops, names := "", 0
	for ; len(ops) < api.MaxText-100; names++ {
		ops += fmt.Sprintf("op many %s:int=>int ", short(names))
	}
	text := fmt.Sprintf("%smain=handle do %s 1 with{return x=>x|%s v k=>k 7}", ops, short(names-1), short(names-1))
	if c := quick(t, text); len(c.Ops) != names || names < 140 {
		t.Errorf("%d operations, want %d", len(c.Ops), names)
	}
	if o := played(t, text); o.Value != "7" {
		t.Errorf("%v", o)
	}
}

// TestLongRows: terms that are as deep as a text has room for.
func TestLongRows(t *testing.T) {
	for _, row := range []struct {
		ahead, part, behind string
		times               int
		value               string
	}{
		{"", "1+", "1", 1400, "1401"}, {"do a 1", "+do a 1", "", 340, "341"}, {"", "1::", "[]", 900, ""}, {"[", "do a 1,", "2]", 350, ""}, {"", "do a(", "1", api.MaxDepth - 4, "1"}, {"", "f(", "do a 1", api.MaxDepth - 4, "1"}, {"", "(fn x=>do a x)(", "1", api.MaxDepth/2 - 3, "1"},
		{"", "let x=do a 1 in ", "x", 170, "1"}, {"", "let f x=do a x in ", "f 1", 150, "1"}, {"", "let rec f x=do a x in ", "f 1", 120, "1"}, {"", "do a 1;", "2", api.MaxDepth - 4, "2"}, {"", "if do a 1<2 then 1 else ", "2", 110, "1"}, {"", "handle 1+do b 1 with{return x=>", "do a 1", 60, "1"},
		{"", "case[1]of[]=>1|x::l=>", "x end", 110, ""}, {"", "(1,", "2", api.MaxType/2 - 2, ""}, {"", "1+(", "2", api.MaxDepth - 4, "198"}, {"", "snd(1,", "2", api.MaxDepth - 4, "2"}, {"", "(fn x=>", "x", api.MaxDepth/2 - 2, "fn"},
	} {
		closing := strings.Repeat(")", row.times*(strings.Count(row.part, "(")-strings.Count(row.part, ")"))) + strings.Repeat("|b v k=>k v}", row.times*strings.Count(row.part, "{")) + strings.Repeat(" end", max(0, (row.times-1)*strings.Count(row.part, "case")))
		text := "op once a:int=>int op many b:int=>int def f x=x main=handle(" + row.ahead + strings.Repeat(row.part, row.times) + row.behind + closing + ")with{return x=>x|a v k=>k v}"
		quick(t, text)
		if o := played(t, text); o.Kind != api.Done || row.value != "" && o.Value != row.value {
			t.Errorf("%.60s..: %v", text, o)
		}
	}
}
