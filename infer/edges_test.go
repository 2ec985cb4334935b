package infer_test

import (
	"fmt"
	"slices"
	"strings"
	"testing"

	"effectus/api"
	"effectus/infer"
	"effectus/syntax"
)

// params are as many parameters: a function of them that gives a type of n parts has twice as many parts and n.
func params(count int) string {
	return strings.TrimSpace(strings.Repeat("a ", count))
}

// ints is a written type of as many parts.
func ints(parts int) string {
	text := strings.Repeat("int * ", (parts-1)/2) + "int"
	if parts%2 == 0 {
		text = strings.Replace(text, "int", "int list", 1)
	}
	return text
}

func TestGreatOperations(t *testing.T) {
	for _, parts := range []int{1, 2, 3, api.MaxType - 1, api.MaxType} {
		typesOf(t, "op once a : "+ints(parts)+" => int main = 1")
		typesOf(t, "op once a : int => "+ints(parts)+" main = 1")
		typesOf(t, "op once a : "+ints(parts)+" => "+ints(parts)+" main = 1")
	}
	for _, parts := range []int{api.MaxType + 1, api.MaxType + 2, api.MaxType + 100} {
		checkMarked(t, api.ErrBig, "",
			"^op once a : "+ints(parts)+" => int main = 1", "^op once a : int => "+ints(parts)+" main = x",
			"op once b : int => int ^op once a : "+ints(parts)+" => int op once b : int => int main = 1",
			"^op once a : (int -> "+ints(parts-2)+") => int main = 1", "^op once a : int => (int -{a}-> "+ints(parts-3)+") main = 1",
			"^op once a : int => ((int -{a, b}-> "+ints(parts-5)+") list) op once b : int => int main = 1",
		)
	}
	typesOf(t, "op once a : (int -{a}-> "+ints(api.MaxType-3)+") => int main = 1")
	typesOf(t, "op once a : int => ((int -{a, b}-> "+ints(api.MaxType-5)+") list) op once b : int => int main = 1")
	checkMarked(t, api.ErrName, "op once a : "+ints(api.MaxType+1)+" => int ", "-{^x}-> int main = 1")
	checkMarked(t, api.ErrTwice, "op once a : "+ints(3)+" => int ", "^op once a : "+ints(api.MaxType+1)+" => int main = 1")
}

// TestGreatTypes: types of MaxType parts are let through by def, let and main, those of one more are not.
func TestGreatTypes(t *testing.T) {
	half := api.MaxType/2 - 1
	most := "fn " + params(half) + " => [1]"
	more := "fn " + params(half+1) + " => 1"
	for _, text := range []string{
		"main = " + most, "main = let f = " + most + " in 1", "main = let rec f " + params(half) + " = [1] in 1", "main = let f = (1; " + most + ") in 1", "def f " + params(half) + " = [1] main = 1", "def rec f " + params(half) + " = [1] main = f",
	} {
		typesOf(t, text)
	}
	checkMarked(t, api.ErrBig, "",
		"main = ^"+more, "main = (^"+more+")", "main = ^let f = "+more+" in x", "main = ^let rec f "+params(half+1)+" = 1 in x", "main = ^let f = (1; "+more+") in x", "main = 1; ^let f "+params(half+1)+" = 1 in 1",
		"^def f "+params(half+1)+" = 1 main = 1", "def g x = x ^def rec f "+params(half+1)+" = 1 def g x = x main = x", "main = ^("+most+", 1)", "main = [^"+most+"]", "main = 1; ^let f = ("+most+", 1) in 1",
		"def f "+params(half)+" = [1] main = ^(f, f)", "def f "+params(half)+" = [1] def g x = f 1 ^def h x = f main = 1", "def f "+params(half)+" = [1] main = [^f]",
	)
	for _, text := range []string{
		"def f " + params(half) + " = [1] main = (fn p => 1) (f, (f, (f, f)))", "def f " + params(half) + " = [1] main = fst (1, f)", "main = (fn p => 1) (" + more + ")", "def f " + params(half) + " = [1] main = [f]; f; (f, f); 1",
		"def f " + params(half) + " = [1] def g x = (fn p => 1) (f, f) main = g 1",
	} {
		typesOf(t, text)
	}
}

// manyOps declares operations.
func manyOps(count int) string {
	var text strings.Builder
	for i := range count {
		fmt.Fprintf(&text, "op many o%d : int => int ", i)
	}
	return text.String()
}

// TestGreatRows: each operation of a row is a part.
func TestGreatRows(t *testing.T) {
	const count = 50
	var done, handled []string
	for i := range count {
		done = append(done, fmt.Sprintf("do o%d 1", i))
		handled = append(handled, fmt.Sprintf("| o%d u k => 1", i))
	}
	all := "fn x => (" + strings.Join(done, "; ") + ")"
	left := api.MaxType - 3 - count // of a function of all these that gives an int, and a parameter each two
	odd := left % 2
	text := manyOps(count) + "main = fn " + params(left/2) + " => " + strings.Repeat("[", odd) + all + strings.Repeat("]", odd)
	typesOf(t, text)
	checkFault(t, manyOps(count)+"main = fn a => "+text[len(manyOps(count))+len("main = "):], api.ErrBig, len(manyOps(count))+len("main = "))
	nested := "fn f => handle handle f () with { return x => x " + strings.Join(handled[:9], " ") + " } with { return x => x " + strings.Join(handled[:9], " ") + " }"
	types := typesOf(t, manyOps(9)+"main = "+nested)
	if want := "main : (unit -{o0, o0, o1, o1, o2, o2, o3, o3, o4, o4, o5, o5, o6, o6, o7, o7, o8, o8 | r1}-> int) -{| r1}-> int"; !slices.Equal(types, []string{want}) {
		t.Errorf("%q", types)
	}
}

// twice handles what f does as often again: each of it stands in the next one so often.
func twice(levels, times int) string {
	text := "op many x : int => int def h0 f = handle f () with { return x => x | x u k => 0 } "
	for level := range levels {
		text += fmt.Sprintf("def h%d f = %s f %s ", level+1, strings.Repeat(fmt.Sprintf("h%d (fn u => ", level), times-1)+fmt.Sprintf("h%d", level), strings.Repeat(")", times-1))
	}
	return text
}

// TestGreatRowsWithin: rows of far more operations than a type has parts, where no name has such a type.
func TestGreatRowsWithin(t *testing.T) {
	types := typesOf(t, twice(5, 3)+"main = h5 (fn u => do x 1)")
	row := strings.Repeat("x, ", 242) + "x"
	if want := "h5 : (unit -{" + row + " | r1}-> int) -{| r1}-> int"; types[5] != want {
		t.Errorf("%s", types[5])
	}
	typesOf(t, twice(5, 3)+"main = "+strings.Repeat("h5 (fn u => ", 90)+"do x 1"+strings.Repeat(")", 90))
	ahead := twice(5, 3)
	checkFault(t, ahead+"def f g = h5 (fn u => h5 g) main = 1", api.ErrBig, len(ahead))
	checkTypes(t, "op many x : int => int op many y : int => int def f g = handle g () with { return x => x | x u k => 0 } main = fn g => f (fn u => f (fn u => (do y 1; g ())))",
		"f : (unit -{x | r1}-> int) -{| r1}-> int", "main : (unit -{x, x, y | r1}-> int) -{y | r1}-> int")
}

// applied applies functions to pairs of what they take, each within the next one: the functions are looked at before the pairs.
func applied(times int, within string) string {
	return strings.Repeat("(fn a => ", times) + within + strings.Repeat(") (a, a)", times)
}

// grown names pairs of pairs, as often as said, before it looks at what stands within.
func grown(times int, first, within string) string {
	return "handle (" + first + ", " + first + ") with {return a=>" + strings.Repeat("handle (a,a) with {return a=>", times-1) + within + strings.Repeat("}", times)
}

// TestDoubling: types of more parts than can be counted.
func TestDoubling(t *testing.T) {
	checkTypes(t, "main = fn a => "+applied(95, "1"), "main : a -{| r1}-> int")
	checkTypes(t, "main = fn a => "+applied(3, "a"), "main : a -{| r1}-> ((a * a) * a * a) * (a * a) * a * a")
	checkTypes(t, "main = fn a => ("+grown(80, "a", "1")+")", "main : a -{| r1}-> int")
	checkTypes(t, "main = "+grown(2, "1", "a"), "main : (int * int) * int * int")
	typesOf(t, "main = "+grown(7, "1", "a"))
	checkTypes(t, "main = "+grown(80, "1", "let b = fn x => x in b b 1"), "main : int")
	typesOf(t, "main = fn a => "+applied(6, "a"))
	checkMarked(t, api.ErrBig, "main = ",
		"^fn a => "+applied(95, "a"), "^fn a => "+applied(8, "a"), "^"+grown(8, "1", "a"), "^"+grown(80, "1", "a"), grown(8, "1", "^let b = a in 1"), grown(80, "1", "^let b = a in 1"), grown(70, "1", "^let b = (1; a) in x"),
	)
	checkMarked(t, api.ErrType, "main = ",
		grown(80, "1", "^a + 1"), grown(80, "1", "if true then a else ^(a, a)"), "fn b => "+grown(80, "b", "if true then a else ^b"), "fn b => "+grown(70, "b", "(if true then (a, 1) else ^b)"),
	)
	checkMarked(t, api.ErrBig, "main = ", "^fn b => (("+grown(40, "1", "((if true then a else b); 1)")+"); "+grown(40, "1", "((if true then a else b); 1)")+")")
	checkMarked(t, api.ErrType, "main = ", "fn b => (("+grown(40, "1", "((if true then a else b); 1)")+"); "+grown(40, "true", "((if true then a else ^b); 1)")+")")
	checkTypes(t, "main = fst (1, fn b => (("+grown(40, "1", "((if true then a else b); 1)")+"); "+grown(40, "1", "((if true then a else b); 1)")+"))", "main : int")
}

// TestLongTexts: as much of each thing as a text can have, each within a short time.
func TestLongTexts(t *testing.T) {
	great := "def b " + params(149) + " = a "
	tower := strings.Repeat("(b,", 190) + "b" + strings.Repeat(")", 190)
	long := func(ahead, part, behind string) string {
		times := (api.MaxText - len(ahead) - len(behind)) / len(part)
		return ahead + strings.Repeat(part, times) + behind
	}
	for _, text := range []string{
		great + "main = (b" + strings.Repeat(";b", 190) + ";1)", long(great+"main = fst (1, [b", ",b", "])"), long(great+"main = fst (1, b", " b", ")"),
		great + "main = (fn p => " + strings.Repeat("p;", 150) + "1) (" + tower + ")",
		great + "main = (fn p => fst (1, [p" + strings.Repeat(",p", 600) + "])) (" + tower + ")",
		great + "main = handle " + tower + " with { return p => fst (1, [p" + strings.Repeat(",p", 600) + "]) }",
		great + "main = (fn p => " + strings.Repeat("(fn q => ", 60) + "1" + strings.Repeat(") p", 60) + ") (" + tower + ")",
		great + "main = handle " + tower + " with { return p => " + strings.Repeat("(fn q => ", 60) + "1" + strings.Repeat(") p", 60) + "}",
		great + "main = handle " + tower + " with { return p => " + strings.Repeat("let q = fn x => x in ", 60) + "1}",
		long("main = 1", "+1", ""), long("main = [1", ",1", "]"), long("def f x = x main = fst (1, f", " f", ")"),
		"main = (fn f => 1) (fn f => f" + strings.Repeat(" 1", 600) + ")", "main = fn a b c d e f g h => " + strings.Repeat("let q = a in ", 180) + "1",
		"main = fn p => " + strings.Repeat("let q = fn x => (p; x) in ", 100) + "1",
	} {
		if len(text) > api.MaxText {
			t.Fatalf("%d bytes", len(text))
		}
		typesOf(t, text)
	}
}

// TestOtherTrees: those that Parse does not give are refused, or taken for what they are; each call ends.
func TestOtherTrees(t *testing.T) {
	within := make([]api.Node, 2)
	within[0] = api.Node{Kind: api.EApp, Kids: within}
	within[1] = api.Node{Kind: api.EInt}
	wide := api.Node{Kind: api.Prog, Kids: make([]api.Node, 100000)}
	one := api.Node{Kind: api.EInt}
	trees := []api.Node{{}, one, wide, {Kind: -1}, {Kind: api.YFn + 1}, {Kind: api.Prog, Kids: within}, {Kind: api.Prog, N: 1, Kids: []api.Node{one}}, {Kind: api.Prog, N: -1, Kids: []api.Node{one}},
		{Kind: api.Prog, N: 1 << 62, Kids: []api.Node{one}}, {Kind: api.Prog, Kids: []api.Node{one, one}}, {Kind: api.Prog, N: 1, Kids: []api.Node{one, one}}}
	for kind := -1; kind <= api.YFn+1; kind++ {
		for count := range 6 {
			for inner := -1; inner <= api.YFn+1; inner++ {
				kids := slices.Repeat([]api.Node{{Kind: inner}}, count)
				trees = append(trees, api.Node{Kind: api.Prog, Kids: []api.Node{{Kind: kind, Kids: kids}}})
			}
		}
	}
	op := api.Node{Kind: api.DOp, Kids: []api.Node{one, one}}
	trees = append(trees, api.Node{Kind: api.Prog, N: 1, Kids: []api.Node{op, one}})
	for _, tree := range trees {
		infer.Check(tree)
	}
}

// TestChangedTrees: each node of a tree made one of another kind.
func TestChangedTrees(t *testing.T) {
	text := declared + "def rec f x = (f x; case [1] of [] => do get () | a :: l => fst (a, snd (l, ())) end) " +
		"main = let g = fn x => if x == 1 then true else false in handle (do put 1; g (do get ())) with { return x => x | put v k => k () | get u k => shallow k 1 with { return y => y | call h j => true } }"
	tree, _ := syntax.Parse(text)
	var nodes []*api.Node
	var collect func(n *api.Node)
	collect = func(n *api.Node) {
		nodes = append(nodes, n)
		for i := range n.Kids {
			collect(&n.Kids[i])
		}
	}
	collect(&tree)
	if _, fault := infer.Check(tree); fault.Kind != api.OK {
		t.Fatal(fault)
	}
	for _, n := range nodes {
		before := *n
		for kind := -1; kind <= api.YFn+1; kind++ {
			n.Kind = kind
			infer.Check(tree)
		}
		*n = before
		for number := -1; number <= 2; number++ {
			n.N = number
			infer.Check(tree)
		}
		*n = before
		n.Name = strings.Repeat("x", api.MaxName+1)
		infer.Check(tree)
		*n = before
		n.Kids = nil
		infer.Check(tree)
		n.Kids = append(slices.Clone(before.Kids), api.Node{Kind: api.PName})
		infer.Check(tree)
		*n = before
	}
}
