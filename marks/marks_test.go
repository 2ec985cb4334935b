package marks_test

import (
	"fmt"
	"strings"
	"testing"

	"effectus/api"
	"effectus/core"
	"effectus/marks"
)

// someOps stand ahead of the texts that do something.
const someOps = "op once get : unit => int op many flip : unit => bool op once ask : int => int op many fork : int => int "

// size is how many terms there are within a term.
func size(t api.Term) int {
	n := 1
	for _, kid := range t.Kids {
		n += size(kid)
	}
	return n
}

// marked has a text's term and its marks, one for each term.
func marked(t *testing.T, text string) (api.Term, []bool) {
	t.Helper()
	term, _ := core.Core(text)
	list, fault := marks.Marks(text)
	if fault != (api.Fault{}) || len(list) != size(term) {
		t.Fatalf("%.200s: %d marks, %v, of %d terms", text, len(list), fault, size(term))
	}
	return term, list
}

// written writes a term's op, its variable and its kids, with a ! behind the op if it is not calm; and answers the marks of what comes behind it.
func written(t api.Term, list []bool) (string, []bool) {
	text := strings.Fields("Int Bool Unit Nil Var Fn App Let Rec If Pair Fst Snd Cons Case Op Do Handle")[t.Op]
	if !list[0] {
		text += "!"
	}
	switch t.Op {
	case api.TVar, api.TFn, api.TLet, api.TRec:
		text += fmt.Sprint(t.N)
	}
	list = list[1:]
	var kids []string
	for _, kid := range t.Kids {
		var part string
		part, list = written(kid, list)
		kids = append(kids, part)
	}
	if len(kids) > 0 {
		text += "(" + strings.Join(kids, ", ") + ")"
	}
	return text, list
}

// checkWritten has of each text, behind what stands ahead of it, its term with its marks.
func checkWritten(t *testing.T, ahead string, table [][2]string) {
	t.Helper()
	for _, row := range table {
		term, list := marked(t, ahead+row[0])
		if got, _ := written(term, list); got != row[1] {
			t.Errorf("%s:\n got %s\nwant %s", row[0], got, row[1])
		}
	}
}

func TestExamples(t *testing.T) {
	checkWritten(t, "", [][2]string{
		{
			"def rec len l = case l of [] => 0 | x :: r => 1 + len r end def rec map f l = case l of [] => [] | x :: r => f x :: map f r end main = len (map (fn x => x) [])",
			"Rec!1(Fn2(Case(Var2, Int, Op(Int, App(Var1, Var4)))), Rec!5(Fn6(Fn7(Case!(Var7, Nil, Cons!(App!(Var6, Var8), App!(App!(Var5, Var6), Var9))))), App!(Var1, App!(App!(Var5, Fn10(Var10)), Nil))))",
		},
		{
			"def rec map f l = case l of [] => [] | x :: r => f x :: map f r end main = map (fn x => x * x) [1]",
			"Rec!1(Fn2(Fn3(Case!(Var3, Nil, Cons!(App!(Var2, Var4), App!(App!(Var1, Var2), Var5))))), App!(App!(Var1, Fn6(Op(Var6, Var6))), Cons(Int, Nil)))",
		},
		{"def rec loop i = loop (i + 1) main = loop 0", "Rec1(Fn2(App(Var1, Op(Var2, Int))), App(Var1, Int))"},
	})
}

// TestKids: a term of each op is calm where its kids are; with one that is not it is not.
func TestKids(t *testing.T) {
	checkWritten(t, "main = ", [][2]string{
		{"1", "Int"}, {"true", "Bool"}, {"()", "Unit"}, {"[]", "Nil"}, {"fn x => x", "Fn1(Var1)"}, {"1; 2", "Let0(Int, Int)"}, {"let x = 1 in x", "Let1(Int, Var1)"}, {"let rec f x = x in f", "Rec1(Fn2(Var2), Var1)"},
		{"if true then 1 else 2", "If(Bool, Int, Int)"}, {"(1, 2)", "Pair(Int, Int)"}, {"fst (1, 2)", "Fst(Pair(Int, Int))"}, {"snd (1, 2)", "Snd(Pair(Int, Int))"}, {"[1]", "Cons(Int, Nil)"},
		{"case [1] of [] => 2 | x :: r => x end", "Case(Cons(Int, Nil), Int, Var1)"}, {"1 + 2", "Op(Int, Int)"}, {"1 == 2", "Op(Int, Int)"}, {"handle 1 with { return x => x }", "Handle(Int, Var1)"}, {"shallow 1 with { return x => x }", "Handle(Int, Var1)"},
	})
	checkWritten(t, someOps+"main = fn g => ", [][2]string{
		{"do ask 1", "Fn1(Do!(Int))"}, {"do ask (g 1)", "Fn1(Do!(App!(Var1, Int)))"}, {"fn x => do ask x", "Fn1(Fn2(Do!(Var2)))"}, {"fn x => g x", "Fn1(Fn2(App!(Var1, Var2)))"},
		{"g 1; 2", "Fn1(Let!0(App!(Var1, Int), Int))"}, {"1; g 2", "Fn1(Let!0(Int, App!(Var1, Int)))"}, {"let x = g 1 in x", "Fn1(Let!2(App!(Var1, Int), Var2))"}, {"let x = 1 in g x", "Fn1(Let!2(Int, App!(Var1, Var2)))"},
		{"let rec f x = g x in f", "Fn1(Rec2(Fn3(App!(Var1, Var3)), Var2))"}, {"let rec f x = x in g f", "Fn1(Rec!2(Fn3(Var3), App!(Var1, Var2)))"}, {"let f x = g x in f", "Fn1(Let3(Fn2(App!(Var1, Var2)), Var3))"},
		{"if g 1 then 1 else 2", "Fn1(If!(App!(Var1, Int), Int, Int))"}, {"if true then g 1 else 2", "Fn1(If!(Bool, App!(Var1, Int), Int))"}, {"if true then 1 else g 2", "Fn1(If!(Bool, Int, App!(Var1, Int)))"},
		{"(g 1, 2)", "Fn1(Pair!(App!(Var1, Int), Int))"}, {"(1, g 2)", "Fn1(Pair!(Int, App!(Var1, Int)))"}, {"fst (g 1)", "Fn1(Fst!(App!(Var1, Int)))"}, {"snd (g 1)", "Fn1(Snd!(App!(Var1, Int)))"}, {"fst g", "Fn1(Fst(Var1))"},
		{"g 1 :: []", "Fn1(Cons!(App!(Var1, Int), Nil))"}, {"1 :: g 2", "Fn1(Cons!(Int, App!(Var1, Int)))"}, {"g 1 + 2", "Fn1(Op!(App!(Var1, Int), Int))"}, {"1 < g 2", "Fn1(Op!(Int, App!(Var1, Int)))"},
		{"case g 1 of [] => 2 | x :: r => x end", "Fn1(Case!(App!(Var1, Int), Int, Var2))"}, {"case [] of [] => g 2 | x :: r => x end", "Fn1(Case!(Nil, App!(Var1, Int), Var2))"}, {"case [] of [] => 2 | x :: r => g x end", "Fn1(Case!(Nil, Int, App!(Var1, Var2)))"},
		{"handle g 1 with { return x => x }", "Fn1(Handle!(App!(Var1, Int), Var2))"}, {"handle 1 with { return x => g x }", "Fn1(Handle!(Int, App!(Var1, Var2)))"}, {"handle 1 with { return x => x | ask v k => 2 | fork v k => v }", "Fn1(Handle(Int, Var2, Int, Var5))"},
		{"handle 1 with { return x => x | ask v k => g 1 | fork v k => v }", "Fn1(Handle!(Int, Var2, App!(Var1, Int), Var5))"}, {"shallow 1 with { return x => x | ask v k => 1 | fork v k => g v }", "Fn1(Handle!(Int, Var2, Int, App!(Var1, Var5)))"},
	})
	// an operation that is handled at once is done all the same; and what a resumption does is not known
	checkWritten(t, someOps+"main = ", [][2]string{
		{"handle do ask 1 with { return x => x | ask v k => v }", "Handle!(Do!(Int), Var1, Var2)"}, {"handle 1 with { return x => x | ask v k => k v }", "Handle!(Int, Var1, App!(Var3, Var2))"}, {"handle 1 with { return x => 1 | ask v k => let j = k in j v; 1 }", "Handle!(Int, Int, Let!4(Var3, Let!0(App!(Var4, Var2), Int)))"},
	})
}

// TestApplied: of a TApp the first kid is a calm function with less arguments than its arity by one, and each argument is calm.
func TestApplied(t *testing.T) {
	checkWritten(t, "def f x y = x + y main = ", [][2]string{
		{"f", "Let3(Fn1(Fn2(Op(Var1, Var2))), Var3)"}, {"f 1", "Let!3(Fn1(Fn2(Op(Var1, Var2))), App!(Var3, Int))"}, {"f 1 2", "Let3(Fn1(Fn2(Op(Var1, Var2))), App(App!(Var3, Int), Int))"}, {"(f 1) 2", "Let3(Fn1(Fn2(Op(Var1, Var2))), App(App!(Var3, Int), Int))"},
		{"f (f 1 2) (f 3 4)", "Let3(Fn1(Fn2(Op(Var1, Var2))), App(App!(Var3, App(App!(Var3, Int), Int)), App(App!(Var3, Int), Int)))"}, {"(fn x => x) 1", "Let!3(Fn1(Fn2(Op(Var1, Var2))), App!(Fn4(Var4), Int))"},
		{"(if true then f else f) 1 2", "Let!3(Fn1(Fn2(Op(Var1, Var2))), App!(App!(If(Bool, Var3, Var3), Int), Int))"}, {"let g = f in g 1 2", "Let!3(Fn1(Fn2(Op(Var1, Var2))), Let!4(Var3, App!(App!(Var4, Int), Int)))"}, {"let g = f 1 in g 2", "Let!3(Fn1(Fn2(Op(Var1, Var2))), Let!4(App!(Var3, Int), App!(Var4, Int)))"},
		{"let g = fn x => f x in g 1 2", "Let!3(Fn1(Fn2(Op(Var1, Var2))), Let!5(Fn4(App!(Var3, Var4)), App!(App!(Var5, Int), Int)))"}, {"let g = fn x y => f x y in g 1 2", "Let3(Fn1(Fn2(Op(Var1, Var2))), Let6(Fn4(Fn5(App(App!(Var3, Var4), Var5))), App(App!(Var6, Int), Int)))"},
	})
	// more arguments than there are parameters
	checkWritten(t, "def f x = if x < 1 then fn y => y else fn y => x main = ", [][2]string{
		{"f 1", "Let4(Fn1(If(Op(Var1, Int), Fn2(Var2), Fn3(Var1))), App(Var4, Int))"}, {"f 1 2", "Let!4(Fn1(If(Op(Var1, Int), Fn2(Var2), Fn3(Var1))), App!(App(Var4, Int), Int))"},
	})
	// each argument of three is done, and none
	checkWritten(t, someOps+"def f x y z = x def rec g x = do ask x main = fn u => ", [][2]string{
		{"f 1 2 3", "Let4(Fn1(Fn2(Fn3(Var1))), Rec5(Fn6(Do!(Var6)), Fn7(App(App!(App!(Var4, Int), Int), Int))))"}, {"f (g 1) 2 3", "Let4(Fn1(Fn2(Fn3(Var1))), Rec5(Fn6(Do!(Var6)), Fn7(App!(App!(App!(Var4, App!(Var5, Int)), Int), Int))))"},
		{"f 1 (g 2) 3", "Let4(Fn1(Fn2(Fn3(Var1))), Rec5(Fn6(Do!(Var6)), Fn7(App!(App!(App!(Var4, Int), App!(Var5, Int)), Int))))"}, {"f 1 2 (g 3)", "Let4(Fn1(Fn2(Fn3(Var1))), Rec5(Fn6(Do!(Var6)), Fn7(App!(App!(App!(Var4, Int), Int), App!(Var5, Int)))))"},
		{"g (f 1 2 3)", "Let4(Fn1(Fn2(Fn3(Var1))), Rec5(Fn6(Do!(Var6)), Fn7(App!(Var5, App(App!(App!(Var4, Int), Int), Int)))))"},
	})
}

// TestKnown: which variables are known functions, and with what arity and body.
func TestKnown(t *testing.T) {
	checkWritten(t, "main = ", [][2]string{
		{"let f = fn x => x in f 1", "Let2(Fn1(Var1), App(Var2, Int))"}, {"let f x = fn y => x in f 1 2", "Let3(Fn1(Fn2(Var1)), App(App!(Var3, Int), Int))"}, {"let f x = let z = x in fn y => z in f 1", "Let4(Fn1(Let2(Var1, Fn3(Var2))), App(Var4, Int))"},
		{"let f = let z = 1 in fn y => z in f 1", "Let!3(Let1(Int, Fn2(Var1)), App!(Var3, Int))"}, {"let f = 1; fn x => x in f 1", "Let!2(Let0(Int, Fn1(Var1)), App!(Var2, Int))"}, {"let f = if true then fn x => x else fn x => x in f 1", "Let!3(If(Bool, Fn1(Var1), Fn2(Var2)), App!(Var3, Int))"},
		{"(fn f => f 1) (fn x => x)", "App!(Fn1(App!(Var1, Int)), Fn2(Var2))"}, {"case [fn x => x] of [] => 0 | f :: r => f 1 end", "Case!(Cons(Fn1(Var1), Nil), Int, App!(Var2, Int))"}, {"handle fn x => x with { return f => f 1 }", "Handle!(Fn1(Var1), App!(Var2, Int))"},
		{"(fn x => x); 1", "Let0(Fn1(Var1), Int)"}, {"(fn g => g 1); 1", "Let0(Fn1(App!(Var1, Int)), Int)"}, {"let f x = x in let f = 1 in f", "Let2(Fn1(Var1), Let3(Int, Var3))"}, {"let f x = x in let g f = f 1 in g f", "Let!2(Fn1(Var1), Let!4(Fn3(App!(Var3, Int)), App!(Var4, Var2)))"},
		{"let f x = x in let f y = f y in f 1", "Let2(Fn1(Var1), Let4(Fn3(App(Var2, Var3)), App(Var4, Int)))"}, {"let f g x = g x in f", "Let3(Fn1(Fn2(App!(Var1, Var2))), Var3)"},
	})
	// a function within one that is not calm may be calm, and the other way round
	checkWritten(t, "main = ", [][2]string{
		{"fn h => let f x = (let g y = y in h (g x)) in f 1", "Fn1(Let!5(Fn2(Let!4(Fn3(Var3), App!(Var1, App(Var4, Var2)))), App!(Var5, Int)))"},
		{"fn h => let f x = (let g y = h y in x) in f 1", "Fn1(Let5(Fn2(Let4(Fn3(App!(Var1, Var3)), Var2)), App(Var5, Int)))"},
	})
}

// TestMostCalm: functions that call themselves and each other are calm if nothing stands against it, and all that lean on one that is not are not.
func TestMostCalm(t *testing.T) {
	checkWritten(t, "main = fn h => ", [][2]string{
		{"let rec f x = f x in f 1", "Fn1(Rec2(Fn3(App(Var2, Var3)), App(Var2, Int)))"}, {"let rec f x = f (f x) in f 1", "Fn1(Rec2(Fn3(App(Var2, App(Var2, Var3))), App(Var2, Int)))"}, {"let rec f x = if h x then 1 else f x in f 1", "Fn1(Rec!2(Fn3(If!(App!(Var1, Var3), Int, App!(Var2, Var3))), App!(Var2, Int)))"},
		{"let rec f x = (let rec g y = f y in g x) in f 1", "Fn1(Rec2(Fn3(Rec4(Fn5(App(Var2, Var5)), App(Var4, Var3))), App(Var2, Int)))"},
		{"let rec f x = (let rec g y = f y in h (g x)) in f 1", "Fn1(Rec!2(Fn3(Rec!4(Fn5(App!(Var2, Var5)), App!(Var1, App!(Var4, Var3)))), App!(Var2, Int)))"},
		{"let rec f x = (let rec g y = f (h y) in g x) in f 1", "Fn1(Rec!2(Fn3(Rec!4(Fn5(App!(Var2, App!(Var1, Var5))), App!(Var4, Var3))), App!(Var2, Int)))"},
		{"let rec f x = (let rec g y = (let rec e z = g z in f y) in h x) in 1", "Fn1(Rec2(Fn3(Rec!4(Fn5(Rec!6(Fn7(App!(Var4, Var7)), App!(Var2, Var5))), App!(Var1, Var3))), Int))"},
		{"let f x = h x in let g x = f x in let e x = g x in let d x = x in d 1", "Fn1(Let3(Fn2(App!(Var1, Var2)), Let5(Fn4(App!(Var3, Var4)), Let7(Fn6(App!(Var5, Var6)), Let9(Fn8(Var8), App(Var9, Int))))))"},
	})
	checkWritten(t, someOps, [][2]string{
		{"def f x = do ask x def g x = f x def e x = x def rec d x = e (d x) main = d 1", "Let2(Fn1(Do!(Var1)), Let4(Fn3(App!(Var2, Var3)), Let6(Fn5(Var5), Rec7(Fn8(App(Var6, App(Var7, Var8))), App(Var7, Int)))))"},
		{"def f x = handle do ask x with { return y => y | ask v k => v } main = f 1", "Let!5(Fn1(Handle!(Do!(Var1), Var2, Var3)), App!(Var5, Int))"},
	})
}
