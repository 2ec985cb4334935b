package syntax_test

import (
	"strings"
	"testing"

	"effectus/api"
)

// checkMarked takes the one ^ out of a text: there the fault is to be.
func checkMarked(t *testing.T, marked string, kind api.Errno) {
	t.Helper()
	ahead, behind, found := strings.Cut(marked, "^")
	if !found || strings.Contains(behind, "^") {
		t.Fatalf("%q has not one ^", marked)
	}
	checkFault(t, ahead+behind, kind, len(ahead))
}

func TestWrongPrograms(t *testing.T) {
	for _, marked := range []string{
		"^", " ^", "# main = 1^", "main^", "main =^", "^1", "^rec", "^a", "^def1 f x = 1", "^( main = 1 )",
		"main ^1", "main ^== 1", "main = 1 ^main", "main = 1 ^= 2", "main = 1 ^op many a : int => int",
		"op ^a", "op ^rec", "op once ^once", "op once ^1", "op once a ^int", "op once a ^:: int", "op many a : int ^= int",
		"op many a : int => int ^; main = 1", "op many a : int => int ^int", "op many a : int => int^",
		"def f x = 1 ^op many a : int => int main = 1",
		"def ^= 1", "def f ^= 1", "def rec ^rec f x = 1", "def rec f ^= 1", "def f x ^1", "def f ^1 = 1", "def f ^( x ) = 1",
		"def f x ^=> 1", "def f x = ^def", "def f x =^", "def f x = 1^", "def f x = 1 ^in 2",
	} {
		checkMarked(t, marked, api.ErrSyntax)
	}
}

// TestWrongTypes: each text stands where an operation's types do.
func TestWrongTypes(t *testing.T) {
	for _, marked := range []string{
		"^", "^a", "^list", "^)", "(^", "( ^)", "( int ^=>", "( int ^, int )", "^=> int", "int ^main",
		"int * ^-> int", "int *^", "int -> ^list", "int ->^", "int ^+ int", "int ^( int )", "int list ^int", "int ^{ a } -> int",
		"int - ^-> int", "int - ^x } -> int", "int -^", "int - { ^} -> int", "int - { ^int } -> int", "int - { x ^x } -> int",
		"int - { x , ^} -> int", "int - { x , ^, y } -> int", "int - { x } ^=> int", "int - { x } ^- > int", "int - { x } -> ^-", "int - { x^",
	} {
		checkMarked(t, "op many a : "+marked, api.ErrSyntax)
	}
	checkMarked(t, "op many a : int => ^=> int", api.ErrSyntax)
	checkMarked(t, "op many a : int => int ^=> int", api.ErrSyntax)
	checkMarked(t, "op many a : int => int -> ^main = 1", api.ErrSyntax)
}

func TestWrongExpressions(t *testing.T) {
	for _, marked := range []string{
		"let ^in", "let f ^in", "let f x ^1", "let f = ^in", "let f = 1^", "let f = 1 ^else", "let f = 1 in^", "let ^1 = 1 in 1",
		"let rec ^= 1 in 1", "let rec f ^= 1 in 1", "let rec ^rec f x = 1 in 1", "let x = let y = 1 in 1^",
		"fn ^=> 1", "fn x ^= 1", "fn x y ^1", "fn x =>^", "fn ^( x ) => 1",
		"if ^then", "if 1 ^else", "if 1 then 2 ^)", "if 1 then 2^", "if 1 then 2 else ^else", "if 1 then ^else 2",
		"case ^of", "case 1 ^end", "case 1 of ^]", "case 1 of ^x :: y => 1", "case 1 of [ ^1 ] => 1", "case 1 of [ ] ^-> 1", "case 1 of [ ] => 1 ^end",
		"case 1 of [ ] => 1 | ^1", "case 1 of [ ] => 1 | ^[ ] => 1", "case 1 of [ ] => 1 | x ^y", "case 1 of [ ] => 1 | x :: ^[ ]", "case 1 of [ ] => 1 | x :: y ^:: z",
		"case 1 of [ ] => 1 | x :: y => 1^", "case 1 of [ ] => 1 | x :: y => 1 ^| x", "case 1 of [ ] => 1 | x :: y => 1 end ^; 1", "case 1 of [ ] => 1 | x :: y => 1 end ^x",
		"handle ^with", "handle 1 ^{", "handle 1 with ^return", "handle 1 with { ^}", "handle 1 with { ^get u k => 1 }", "handle 1 with { return ^=> x }",
		"handle 1 with { return x ^x => x }", "handle 1 with { return x => x^", "handle 1 with { return x => x | ^}", "handle 1 with { return x => x get u k ^=> 1 }",
		"handle 1 with { return x => x | get ^=> 1 }", "handle 1 with { return x => x | get u ^=> 1 }", "handle 1 with { return x => x | get u k ^k => 1 }", "handle 1 with { return x => x | ^return y => 1 }",
		"shallow 1 with { return x => x } ^+ 1", "shallow 1 with { return x => x } ^; 1", "^with",
		"1 ;^", "1 ; ^;", "1 ; ^end", "1 == 2 ^< 3", "1 < 2 ^== 3", "1 < 2 ^: 3", "1 ==^", "1 == ^== 2", "1 == ^fn x => x",
	} {
		checkMarked(t, "main = "+marked, api.ErrSyntax)
	}
}

func TestWrongSmallExpressions(t *testing.T) {
	for _, marked := range []string{
		"1 :: ^:: 2", "1 ::^", "1 + ^+ 2", "1 - ^- 2", "1 * ^* 1", "1 *^", "^- 1", "^* 1", "1 + ^if a then b else c", "1 :: ^let x = 1 in x",
		"f ^fn x => x", "f ^do get 1", "f ^fst x", "do ^1", "do ^do", "do ^( get ) 1", "do get^", "do get ^do get 1", "do get 1 ^1", "do get ^+ 1",
		"fst ^fst x", "fst x ^y", "fst^", "snd^", "snd ^*", "~ ^~ 1", "~ ^x", "~ ^( 1 )", "~^", "f ~ ^f",
		"(^", "( 1^", "( 1 ^]", "( ^, 1 )", "( 1 , ^)", "( 1 , 2 ^, 3 )", "( 1 ; ^)", "( ) ^)", "( ^]",
		"[^", "[ 1^", "[ 1 ^)", "[ ^, 1 ]", "[ 1 , ^]", "[ 1 2 ^}", "[ 1 ^| 2 ]", "[ ^)",
		"1 ^)", "1 ^=> 1", "^int", "^once", "^=", "^:", "1 ^: 2", "1 ^->", "^{ 1 }", "1 ^|", "1 ^then 2",
	} {
		checkMarked(t, "main = "+marked, api.ErrSyntax)
	}
}

// TestWrongTokens: a token that is none is told of when it would be looked at next, not before.
func TestWrongTokens(t *testing.T) {
	const long = "a23456789012345678901"
	for _, marked := range []string{
		"^$", "main ^$ = 1", "main = ^$", "main = 1 ^$", "main = 1^$", "main = 1 + ^\x00", "main = ( ^é )", "main = 1 # $\n^$",
		"op many a : int ^> int", "op many a : int - ^> int", "def ^! x = 1", "main = case 1 of [ ^? ] => 1",
	} {
		checkMarked(t, marked, api.ErrByte)
	}
	for _, marked := range []string{
		"^" + long, "main = ^007", "main = 1 ^00", "main = ~ ^9223372036854775808", "main = f ^" + long, "op once ^" + long, "main = fn x ^" + long + " => 1",
	} {
		checkMarked(t, marked, api.ErrToken)
	}
	for _, marked := range []string{
		"^1 $", "main ^1 $", "main = ^= $", "main = 1 ^) 007", "main = ( 1 ^] " + long, "op ^a $", "main = 1 == 2 ^== $", "main = do get 1 ^1$", "def f ^= 00 $",
	} {
		checkMarked(t, marked, api.ErrSyntax)
	}
	read(t, "main = 1 # $ 007 "+long)
}
