package syntax_test

import (
	"math"
	"strings"
	"testing"

	"effectus/api"
	"effectus/syntax"
)

func checkPrint(t *testing.T, text, want string) {
	t.Helper()
	tree := read(t, text)
	shown := show(tree, false)
	if got := syntax.Print(tree); got != want {
		t.Errorf("%q: %q, want %q", text, got, want)
	}
	if now := show(tree, false); now != shown {
		t.Errorf("%q: Print has made %s of %s", text, now, shown)
	}
	checkPrinted(t, tree)
}

func TestPrintedPrograms(t *testing.T) {
	for text, want := range map[string]string{
		"main = (1+2)*3":                      "main = ( 1 + 2 ) * 3",
		"main=[1,2]":                          "main = 1 :: 2 :: [ ]",
		"main = (fn x y => x) 1":              "main = ( fn x => fn y => x ) 1",
		"op once get:unit=>int main=do get()": "op once get : unit => int main = do get ( )",
		"main = (a; b); c":                    "main = ( a ; b ) ; c",
		"op many a:int=>int op once b:bool=>unit def f x y=x def rec g x y z=y main=f": "op many a : int => int op once b : bool => unit def f x = fn y => x def rec g x = fn y => fn z => y main = f",
		"def f x=(fn y=>y) main=f": "def f x = fn y => y main = f",
		"def f x=a;b main=c;d":     "def f x = a ; b main = c ; d",
	} {
		checkPrint(t, text, want)
	}
}

// TestPrintedExpressions: of each kind, with each of its kids where it needs brackets and where it does not. Behind => stands what is printed; without one: the same.
func TestPrintedExpressions(t *testing.T) {
	for _, line := range []string{
		"~ 5", "true", "false", "( )", "[ ]", "x", "( a , b )", "( a ; b , fn x => x ) =>> ( a ; b , fn x => x )", "((x)) =>> x",
		"let f = fn x => fn y => 1 in f", "let f x y = 1 in f =>> let f = fn x => fn y => 1 in f", "let rec f x y = 1 in f =>> let rec f x = fn y => 1 in f",
		"let x = (a; b) in (c; d) =>> let x = a ; b in c ; d", "(let x = 1 in x) ; y =>> ( let x = 1 in x ) ; y", "let x = 1 in x ; y",
		"fn x y => (x) =>> fn x => fn y => x", "fn x => (a; b) =>> fn x => a ; b", "( fn x => x ) ; y", "( fn x => x ) y", "f ( fn x => x )",
		"if (a; b) then (fn x => x) else (c; d) =>> if a ; b then fn x => x else c ; d", "( if a then b else c ) ; d", "1 + ( if a then b else c )", "a :: ( let x = 1 in x )",
		"case (a; b) of [] => (c; d) | x :: y => (e; f) end =>> case a ; b of [ ] => c ; d | x :: y => e ; f end", "( case a of [ ] => b | x :: y => c end ) ; d", "f ( case a of [ ] => b | x :: y => c end )",
		"handle (a; b) with {return x => (c; d) | op1 p k => (e; f) | g p k => 1} =>> handle a ; b with { return x => c ; d | op1 p k => e ; f | g p k => 1 }", "shallow a with { return x => x }", "( handle a with { return x => x } ) + 1",
		"a ; b ; c", "a; (b; c) =>> a ; b ; c", "( a ; b ) ; c", "a == b ; c < d", "( a ; b ) == c", "a == ( b ; c )",
		"( a == b ) == c", "a < ( b < c )", "(a :: b) == (c :: d) =>> a :: b == c :: d", "( a < b ) :: c", "a :: ( b == c )", "f ( a == b )",
		"( a :: b ) :: c", "a :: (b :: c) =>> a :: b :: c", "(a + b) :: (c - d) =>> a + b :: c - d", "( a :: b ) + c", "a + ( b :: c )",
		"(a + b) + c =>> a + b + c", "(a - b) + c =>> a - b + c", "a + ( b + c )", "a - ( b - c )", "a - ( b + c )", "(a * b) + (c * d) =>> a * b + c * d", "( a + b ) * c", "a * ( b - c )",
		"(a * b) * c =>> a * b * c", "a * ( b * c )", "(f x) * (g y) =>> f x * g y", "do a b * fst c", "(a b) * (snd c) =>> a b * snd c",
		"f x y", "((f x) y) z =>> f x y z", "f ( g x ) y", "( do a b ) c", "( fst a ) b", "( snd a ) b", "f ( do a b )", "f ( fst a )", "( a + b ) c", "f ( a * b )", "f ~ 1", "f (~ 1) [1] =>> f ~ 1 ( 1 :: [ ] )", "f (a , b) [] () =>> f ( a , b ) [ ] ( )",
		"do a (b) =>> do a b", "do a ( b c )", "do a ( do b c )", "do a ( b + c )", "fst ( a , b )", "fst ( fst a )", "snd ( a b )", "snd ( snd ( a ; b ) )", "fst ~ 1",
		"[a; b, fn x => x, c :: d, e + f] =>> ( a ; b ) :: ( fn x => x ) :: ( c :: d ) :: e + f :: [ ]", "[[1], [2, 3]] =>> ( 1 :: [ ] ) :: ( 2 :: 3 :: [ ] ) :: [ ]", "[ ] :: [ ]",
	} {
		text, want, other := strings.Cut(line, " =>> ")
		if !other {
			want = text
		}
		checkPrint(t, "main = "+text, "main = "+want)
	}
}

func TestPrintedTypes(t *testing.T) {
	for _, line := range []string{
		"int", "bool", "unit", "((int)) =>> int",
		"int -> int -> int", "int -> (int -> int) =>> int -> int -> int", "( int -> int ) -> int", "(int * int) -> (int * int) =>> int * int -> int * int",
		"int * int * int", "int * (int * int) =>> int * int * int", "( int * int ) * int", "( int -> int ) * int", "int * ( int -> int )", "(int list) * (int list) =>> int list * int list",
		"(int list) list =>> int list list", "( int * int ) list", "( int -> int ) list list", "(int list) -> bool =>> int list -> bool",
		"int - { a } -> int", "int - { b , a , b } -> int - { c } -> int", "( int - { a } -> int ) - { b } -> int", "( int - { a } -> int ) list",
	} {
		text, want, other := strings.Cut(line, " =>> ")
		if !other {
			want = text
		}
		checkPrint(t, "op many a : "+text+" => unit main = 1", "op many a : "+want+" => unit main = 1")
		checkPrint(t, "op once a : unit => "+text+" main = 1", "op once a : unit => "+want+" main = 1")
	}
}

// TestDeepPrinted: a tree of no more than MaxDepth nodes within one another is read again, one of more may be too deep.
func TestDeepPrinted(t *testing.T) {
	params := func(n int) string { return "main=fn" + strings.Repeat(" x", n) + "=>1" }
	for _, n := range []int{api.MaxDepth - 2, api.MaxDepth - 1} {
		if _, fault := syntax.Parse(syntax.Print(read(t, params(n)))); fault.Kind != api.OK {
			t.Errorf("%d parameters: %v", n, fault)
		}
	}
	printed := syntax.Print(read(t, params(api.MaxDepth)))
	checkFault(t, printed, api.ErrDeep, len(printed)-1)
}

// wildTrees are trees that no text has; some have no end.
func wildTrees() []api.Node {
	round := make([]api.Node, 2)
	round[0] = api.Node{Kind: api.EApp, Kids: round}
	round[1] = api.Node{Kind: api.EPair, Kids: round}
	wide := make([]api.Node, 100000)
	for i := range wide {
		wide[i] = api.Node{Kind: api.EHandle, Kids: wide}
	}
	double := api.Node{Kind: api.EUnit}
	long := api.Node{Kind: api.YInt}
	for range 100000 {
		double = api.Node{Kind: api.EOp, Name: "+", Kids: []api.Node{double, double}}
		long = api.Node{Kind: api.YList, Kids: []api.Node{long}}
	}
	trees := []api.Node{
		{}, round[0], round[1], wide[0], double, long,
		{Kind: api.Prog, Kids: wide},
		{Kind: api.EInt, N: math.MinInt}, {Kind: api.EBool, N: 7}, {Kind: api.EVar}, {Kind: api.EVar, Name: "main = $"},
		{Kind: api.EVar, Name: strings.Repeat("a", 10000000)},
		{Kind: -1}, {Kind: math.MinInt}, {Kind: math.MaxInt}, {Kind: api.YFn + 1}, {Kind: api.YFn + 1, Kids: make([]api.Node, 3)},
	}
	for kind := range len(kindNames) {
		for kid := -1; kid <= len(kindNames); kid++ {
			for count := range 7 {
				kids := make([]api.Node, count)
				for i := range kids {
					kids[i].Kind = kid
				}
				for n := range 2 {
					trees = append(trees, api.Node{Kind: kind, Name: "x", N: n, Kids: kids})
				}
			}
		}
	}
	return trees
}

func TestWildTreesArePrinted(t *testing.T) {
	for _, tree := range wildTrees() {
		if text := syntax.Print(tree); len(text) > 100*api.MaxText {
			t.Errorf("%d bytes", len(text))
		}
	}
}

// TestListsAreTheirOwn: what is put behind one list of a tree is seen in no other one.
func TestListsAreTheirOwn(t *testing.T) {
	text := "op many a:int*int list-{a,b,a}->int=>int op once b:int=>int def f x y=x def rec g x=x main=let h x y=[1,2,3]in let rec i x=(1,2)in case h of []=>1::2|x::y=>handle f 1 2+3;4 with{return x=>if x then 1 else 2|a p k=>k p|b p k=>fst(do a p)}end"
	tree, other := read(t, text), read(t, text)
	shown := show(tree, false)
	var grow func(n api.Node)
	grow = func(n api.Node) {
		for _, kid := range n.Kids {
			grow(kid)
		}
		full := n.Kids[:cap(n.Kids)]
		for i := len(n.Kids); i < len(full); i++ {
			full[i] = api.Node{Kind: api.ENil}
		}
	}
	grow(tree)
	if now := show(tree, false); now != shown {
		t.Errorf("lists share memory: %s is now %s", shown, now)
	}
	tree.Kids[0] = api.Node{}
	if now := show(other, false); now != shown {
		t.Errorf("trees share memory: %s is now %s", shown, now)
	}
}
