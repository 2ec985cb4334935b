package core_test

import (
	"fmt"
	"strings"
	"testing"

	"effectus/api"
	"effectus/core"
)

// someOps stand ahead of the texts that do something.
const someOps = "op once get : unit => int op many flip : unit => bool op once ask : int => int op many fork : int => int "

func opWord(op int) string {
	words := strings.Fields("Int Bool Unit Nil Var Fn App Let Rec If Pair Fst Snd Cons Case Op Do Handle")
	if op < 0 || op >= len(words) {
		return fmt.Sprint("?", op)
	}
	return words[op]
}

// written writes all that a term has and is not zero or empty, with or without places: its op, @At, N, Of, S, Ns and Kids.
func written(t api.Term, places bool) string {
	text := opWord(t.Op)
	if places {
		text += fmt.Sprint("@", t.At)
	}
	if t.N != 0 {
		text += fmt.Sprint(" ", t.N)
	}
	if t.Of != 0 {
		text += fmt.Sprint(" of ", t.Of)
	}
	if t.S != "" {
		text += " " + t.S
	}
	if len(t.Ns) > 0 {
		text += fmt.Sprint(t.Ns)
	}
	var kids []string
	for _, kid := range t.Kids {
		kids = append(kids, written(kid, places))
	}
	if len(kids) > 0 {
		text += "(" + strings.Join(kids, ", ") + ")"
	}
	return text
}

func made(t *testing.T, text string) api.Term {
	t.Helper()
	term, fault := core.Core(text)
	if fault != (api.Fault{}) {
		t.Errorf("%.200s: %v", text, fault)
	}
	return term
}

// checkWritten has of each text, behind what stands ahead of it, its term.
func checkWritten(t *testing.T, ahead string, places bool, table [][2]string) {
	t.Helper()
	for _, row := range table {
		if got := written(made(t, ahead+row[0]), places); got != row[1] {
			t.Errorf("%s:\n got %s\nwant %s", row[0], got, row[1])
		}
	}
}

func TestExample(t *testing.T) {
	checkWritten(t, "op many flip : unit => bool ", false, [][2]string{{
		"def not b = if b then false else true main = handle not (do flip ()) with { return x => x | flip u k => k true }",
		"Let 2(Fn 1(If(Var 1, Bool, Bool 1)), Handle 3[0 4 5](App(Var 2, Do flip(Unit)), Var 3, App(Var 5, Bool 1)))",
	}})
}

func TestPlainTerms(t *testing.T) {
	checkWritten(t, "main = ", false, [][2]string{
		{"0", "Int"}, {"7", "Int 7"}, {"~7", "Int -7"}, {"9223372036854775807", "Int 9223372036854775807"}, {"~9223372036854775807", "Int -9223372036854775807"},
		{"true", "Bool 1"}, {"false", "Bool"}, {"()", "Unit"}, {"[]", "Nil"}, {"((7))", "Int 7"},
		{"(fn x => x) 1", "App(Fn 1(Var 1), Int 1)"}, {"if true then 1 else 2", "If(Bool 1, Int 1, Int 2)"}, {"(1, 2)", "Pair(Int 1, Int 2)"}, {"fst (1, 2)", "Fst(Pair(Int 1, Int 2))"}, {"snd (1, 2)", "Snd(Pair(Int 1, Int 2))"},
		{"1 :: []", "Cons(Int 1, Nil)"}, {"[1, 2]", "Cons(Int 1, Cons(Int 2, Nil))"},
		{"1 + 2", "Op +(Int 1, Int 2)"}, {"1 - 2", "Op -(Int 1, Int 2)"}, {"1 * 2", "Op *(Int 1, Int 2)"}, {"1 < 2", "Op <(Int 1, Int 2)"}, {"1 == 2", "Op ==(Int 1, Int 2)"}, {"1 - 2 * 3 - 4", "Op -(Op -(Int 1, Op *(Int 2, Int 3)), Int 4)"},
		{"1; 2", "Let(Int 1, Int 2)"}, {"1; 2; 3", "Let(Int 1, Let(Int 2, Int 3))"}, {"(1; 2); 3", "Let(Let(Int 1, Int 2), Int 3)"},
	})
}

// TestNumbers: the next number is asked for where the document says so: each kid that is a function tells when its turn was.
func TestNumbers(t *testing.T) {
	checkWritten(t, "main = ", false, [][2]string{
		{"fn x => x", "Fn 1(Var 1)"}, {"fn x y z => y", "Fn 1(Fn 2(Fn 3(Var 2)))"}, {"fn x => fn y => x", "Fn 1(Fn 2(Var 1))"},
		{"(fn x => x) (fn x => x) (fn x => x)", "App(App(Fn 1(Var 1), Fn 2(Var 2)), Fn 3(Var 3))"},
		{"let x = fn y => y in x", "Let 2(Fn 1(Var 1), Var 2)"}, {"let x = fn y => y in fn z => x", "Let 2(Fn 1(Var 1), Fn 3(Var 2))"}, {"let f x y = x in f", "Let 3(Fn 1(Fn 2(Var 1)), Var 3)"},
		{"let rec f x = f x in f", "Rec 1(Fn 2(App(Var 1, Var 2)), Var 1)"}, {"let rec f x y = f y x in fn z => 1", "Rec 1(Fn 2(Fn 3(App(App(Var 1, Var 3), Var 2))), Fn 4(Int 1))"},
		{"(fn x => x); fn y => y", "Let(Fn 1(Var 1), Fn 2(Var 2))"}, {"if (fn x => x) true then fn x => x else fn x => x", "If(App(Fn 1(Var 1), Bool 1), Fn 2(Var 2), Fn 3(Var 3))"},
		{"(fn x => x, fn x => x)", "Pair(Fn 1(Var 1), Fn 2(Var 2))"}, {"fst (fn x => x, 1)", "Fst(Pair(Fn 1(Var 1), Int 1))"}, {"[fn x => x, fn x => x]", "Cons(Fn 1(Var 1), Cons(Fn 2(Var 2), Nil))"},
		{"(fn x => x) 1 + (fn x => x) 2", "Op +(App(Fn 1(Var 1), Int 1), App(Fn 2(Var 2), Int 2))"},
		{"case [fn a => a] of [] => fn b => b | x :: r => fn c => x c end", "Case[3 4](Cons(Fn 1(Var 1), Nil), Fn 2(Var 2), Fn 5(App(Var 3, Var 5)))"},
		{"case [] of [] => [] | x :: r => r end", "Case[1 2](Nil, Nil, Var 2)"},
		{"handle fn a => a with { return x => fn b => x b }", "Handle 2(Fn 1(Var 1), Fn 3(App(Var 2, Var 3)))"}, {"shallow fn a => a with { return x => fn b => x b }", "Handle 2 of 1(Fn 1(Var 1), Fn 3(App(Var 2, Var 3)))"},
	})
	checkWritten(t, someOps+"main = ", false, [][2]string{
		{"handle do get ((fn a => a) ()) with { return x => x | get u k => k 1 }", "Handle 2[0 3 4](Do get(App(Fn 1(Var 1), Unit)), Var 2, App(Var 4, Int 1))"},
		{"handle do fork (do ask 1) with { return x => let a = x in a | fork v k => let b = v in k b | ask v k => let c = k in c v }",
			"Handle 1[3 3 4 2 6 7](Do 3 fork(Do 2 ask(Int 1)), Let 2(Var 1, Var 2), Let 5(Var 3, App(Var 4, Var 5)), Let 8(Var 7, App(Var 8, Var 6)))"},
		{"shallow do flip () with { return x => x | flip u k => handle k true with { return y => y | flip v j => j false } }",
			"Handle 1 of 1[1 2 3](Do 1 flip(Unit), Var 1, Handle 4[1 5 6](App(Var 3, Bool 1), Var 4, App(Var 6, Bool)))"},
		{"handle (shallow 1 with { return x => x | ask v k => 2 }) with { return x => x | flip u k => 3 }", "Handle 4[1 5 6](Handle 1 of 1[2 2 3](Int 1, Var 1, Int 2), Var 4, Int 3)"},
	})
}

func TestDefs(t *testing.T) {
	checkWritten(t, "", false, [][2]string{
		{"def f x = x main = f", "Let 2(Fn 1(Var 1), Var 2)"}, {"def f x y = x main = f", "Let 3(Fn 1(Fn 2(Var 1)), Var 3)"}, {"def rec f x = f x main = f", "Rec 1(Fn 2(App(Var 1, Var 2)), Var 1)"},
		{"def f x = x def g x = f x def rec h x = g (h x) main = (f, (g, h))", "Let 2(Fn 1(Var 1), Let 4(Fn 3(App(Var 2, Var 3)), Rec 5(Fn 6(App(Var 4, App(Var 5, Var 6))), Pair(Var 2, Pair(Var 4, Var 5)))))"},
		{"def f x = 1 main = fn x => 2", "Let 2(Fn 1(Int 1), Fn 3(Int 2))"}, {"def rec f x = 1 main = fn x => 2", "Rec 1(Fn 2(Int 1), Fn 3(Int 2))"},
		{"op once a : int => int def a a = a main = handle do a 1 with { return a => a | a a k => k a }", "Let 2(Fn 1(Var 1), Handle 3[0 4 5](Do a(Int 1), Var 3, App(Var 5, Var 4)))"},
	})
	// operations are numbered as they are declared, whether they are used or not
	checkWritten(t, "op once c : int => int op many b : int => int op once a : int => int ", false, [][2]string{
		{"def f x = do a x main = handle f 1 with { return x => x | b v k => k 1 | a v k => k 2 | c v k => k 3 }",
			"Let 2(Fn 1(Do 2 a(Var 1)), Handle 3[1 4 5 2 6 7 0 8 9](App(Var 2, Int 1), Var 3, App(Var 5, Int 1), App(Var 7, Int 2), App(Var 9, Int 3)))"},
		{"def f x = do b (do c x) main = 1", "Let 2(Fn 1(Do 1 b(Do c(Var 1))), Int 1)"},
	})
}

// TestNearest: a name is the nearest one of its text, and only where it is in sight.
func TestNearest(t *testing.T) {
	checkWritten(t, "main = ", false, [][2]string{
		{"fn x x => x", "Fn 1(Fn 2(Var 2))"}, {"fn x => (fn x => x) x", "Fn 1(App(Fn 2(Var 2), Var 1))"}, {"fn x => x ((fn x => x) 1)", "Fn 1(App(Var 1, App(Fn 2(Var 2), Int 1)))"},
		{"let x = 1 in let x = x in x", "Let 1(Int 1, Let 2(Var 1, Var 2))"}, {"let x = 1 in (let x = 2 in x) + x", "Let 1(Int 1, Op +(Let 2(Int 2, Var 2), Var 1))"}, {"let x = (let x = 1 in x) in x", "Let 2(Let 1(Int 1, Var 1), Var 2)"},
		{"let f x = 1 in let f x = f x in f", "Let 2(Fn 1(Int 1), Let 4(Fn 3(App(Var 2, Var 3)), Var 4))"}, {"let f x = 1 in let rec f x = f x in f", "Let 2(Fn 1(Int 1), Rec 3(Fn 4(App(Var 3, Var 4)), Var 3))"},
		{"let rec f f = f in f", "Rec 1(Fn 2(Var 2), Var 1)"}, {"let f x = x in let rec x f = f in f x", "Let 2(Fn 1(Var 1), Rec 3(Fn 4(Var 4), App(Var 2, Var 3)))"},
		{"case [5] of [] => [] | x :: x => x end", "Case[1 2](Cons(Int 5, Nil), Nil, Var 2)"},
		{"let x = [1] in case x of [] => x | x :: r => x :: r end", "Let 1(Cons(Int 1, Nil), Case[2 3](Var 1, Var 1, Cons(Var 2, Var 3)))"}, {"let r = [1] in (case r of [] => r | x :: r => r end, r)", "Let 1(Cons(Int 1, Nil), Pair(Case[2 3](Var 1, Var 1, Var 3), Var 1))"},
		{"let x = 1 in (handle x with { return x => x }) + x", "Let 1(Int 1, Op +(Handle 2(Var 1, Var 2), Var 1))"},
	})
	checkWritten(t, someOps+"main = let x = 1 in let k = 2 in ", false, [][2]string{
		{"handle x with { return x => x | ask v k => x | fork k x => k }", "Let 1(Int 1, Let 2(Int 2, Handle 3[2 4 5 3 6 7](Var 1, Var 3, Var 1, Var 6)))"},
		{"handle do ask k with { return k => k + x | ask x k => k x | fork k k => k 1 }", "Let 1(Int 1, Let 2(Int 2, Handle 3[2 4 5 3 6 7](Do 2 ask(Var 2), Op +(Var 3, Var 1), App(Var 5, Var 4), App(Var 7, Int 1))))"},
		{"(handle 1 with { return x => x | ask x k => x | get u x => x 1 }) + x + k", "Let 1(Int 1, Let 2(Int 2, Op +(Op +(Handle 3[2 4 5 0 6 7](Int 1, Var 3, Var 4, App(Var 7, Int 1)), Var 1), Var 2)))"},
	})
	// neither a def's parameter nor what it binds within is in sight behind it
	checkWritten(t, "def x f = f def f y = let x = 5 in x main = ", false, [][2]string{
		{"x 1 + f 2", "Let 2(Fn 1(Var 1), Let 5(Fn 3(Let 4(Int 5, Var 4)), Op +(App(Var 2, Int 1), App(Var 5, Int 2))))"}, {"let f = 3 in x f", "Let 2(Fn 1(Var 1), Let 5(Fn 3(Let 4(Int 5, Var 4)), Let 6(Int 3, App(Var 2, Var 6))))"},
	})
}

// TestPlaces: a term stands where its node does.
func TestPlaces(t *testing.T) {
	checkWritten(t, "", true, [][2]string{
		{"main = 1", "Int@7 1"}, {"main = ((1))", "Int@9 1"}, {"main = ~ 1", "Int@7 -1"}, {"main = ()", "Unit@7"}, {"main = (true, false)", "Pair@7(Bool@8 1, Bool@14)"}, {"main = [1, 2]", "Cons@8(Int@8 1, Cons@11(Int@11 2, Nil@7))"},
		{"main = (1) + 2 * 3", "Op@8 +(Int@8 1, Op@13 *(Int@13 2, Int@17 3))"}, {"main = fn x y => (x)", "Fn@7 1(Fn@12 2(Var@18 1))"}, {"main = let f x = x in f 1", "Let@7 2(Fn@13 1(Var@17 1), App@22(Var@22 2, Int@24 1))"},
		{"main = let rec f x = x in f", "Rec@7 1(Fn@17 2(Var@21 2), Var@26 1)"}, {"main = 1; 2", "Let@7(Int@7 1, Int@10 2)"}, {"main = if true then fst (1, 2) else 3", "If@7(Bool@10 1, Fst@20(Pair@24(Int@25 1, Int@28 2)), Int@36 3)"},
		{"main = case [] of [] => 1 | x :: r => snd (r, 2) end", "Case@7[1 2](Nil@12, Int@24 1, Snd@38(Pair@42(Var@43 2, Int@46 2)))"},
		{"def f x y = x def rec g x = x main = f", "Let@0 3(Fn@6 1(Fn@8 2(Var@12 1)), Rec@14 4(Fn@24 5(Var@28 5), Var@37 3))"},
		{"op once a:int=>int main = handle do a 1 with { return x => x | a v k => k v }", "Handle@26 1[0 2 3](Do@33 a(Int@38 1), Var@59 1, App@72(Var@72 3, Var@74 2))"},
		{" # a remark\n main = # 1\n 1", "Int@25 1"},
	})
}
