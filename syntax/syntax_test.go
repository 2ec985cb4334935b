package syntax_test

import (
	"strconv"
	"strings"
	"testing"

	"effectus/api"
	"effectus/syntax"
)

var kindNames = [...]string{
	"Prog", "DOp", "DLet", "EInt", "EBool", "EUnit", "EVar", "EFn", "EApp", "ELet",
	"ESeq", "EIf", "EPair", "EFst", "ESnd", "ENil", "ECons", "ECase", "EOp", "EDo",
	"EHandle", "CReturn", "COp", "PName", "YInt", "YBool", "YUnit", "YList", "YPair", "YFn",
}

// show tells all of a tree: kind@place, name, =number, (kids); without places if bare.
func show(n api.Node, bare bool) string {
	var b strings.Builder
	b.WriteString(kindNames[n.Kind])
	if !bare {
		b.WriteString("@" + strconv.Itoa(n.At))
	}
	if n.Name != "" {
		b.WriteString(" " + n.Name)
	}
	if n.N != 0 {
		b.WriteString(" =" + strconv.Itoa(n.N))
	}
	if len(n.Kids) > 0 {
		var kids []string
		for _, kid := range n.Kids {
			kids = append(kids, show(kid, bare))
		}
		b.WriteString(" (" + strings.Join(kids, ", ") + ")")
	}
	return b.String()
}

func read(t *testing.T, text string) api.Node {
	t.Helper()
	n, fault := syntax.Parse(text)
	if fault != (api.Fault{}) {
		t.Fatalf("%q: %v", text, fault)
	}
	return n
}

func checkTree(t *testing.T, text, want string) {
	t.Helper()
	if got := show(read(t, text), false); got != want {
		t.Errorf("%q:\ngot  %s\nwant %s", text, got, want)
	}
}

func checkFault(t *testing.T, text string, kind api.Errno, at int) {
	t.Helper()
	n, fault := syntax.Parse(text)
	if fault != (api.Fault{Kind: kind, At: at}) {
		t.Errorf("%.80q: %v, want %v at %d", text, fault, kind, at)
	}
	if n.Kind != 0 || n.At != 0 || n.Name != "" || n.N != 0 || n.Kids != nil {
		t.Errorf("%.80q: a tree beside the fault %v: %s", text, fault, show(n, false))
	}
}

// TestMainExpressions: each text stands behind "main=", so that its first byte is at 5.
func TestMainExpressions(t *testing.T) {
	for _, c := range []struct{ text, want string }{
		{"0", "EInt@5"},
		{"12", "EInt@5 =12"},
		{"9223372036854775807", "EInt@5 =9223372036854775807"},
		{"~3", "EInt@5 =-3"},
		{"~ 0", "EInt@5"},
		{"~ # behind a remark\n9223372036854775807", "EInt@5 =-9223372036854775807"},
		{"true", "EBool@5 =1"},
		{"false", "EBool@5"},
		{"( )", "EUnit@5"},
		{"x", "EVar@5 x"},
		{"(x)", "EVar@6 x"},
		{"((x))", "EVar@7 x"},
		{"(())", "EUnit@6"},
		{"(a,b)", "EPair@5 (EVar@6 a, EVar@8 b)"},
		{"((a,b))", "EPair@6 (EVar@7 a, EVar@9 b)"},
		{"((a),(b))", "EPair@5 (EVar@7 a, EVar@11 b)"},
		{"[]", "ENil@5"},
		{"[a]", "ECons@6 (EVar@6 a, ENil@5)"},
		{"[a,b]", "ECons@6 (EVar@6 a, ECons@8 (EVar@8 b, ENil@5))"},
		{"[(a),2]", "ECons@7 (EVar@7 a, ECons@10 (EInt@10 =2, ENil@5))"},
		{"[a;b,c]", "ECons@6 (ESeq@6 (EVar@6 a, EVar@8 b), ECons@10 (EVar@10 c, ENil@5))"},
		{"[[]]", "ECons@6 (ENil@6, ENil@5)"},

		{"f a b", "EApp@5 (EApp@5 (EVar@5 f, EVar@7 a), EVar@9 b)"},
		{"f(a b)", "EApp@5 (EVar@5 f, EApp@7 (EVar@7 a, EVar@9 b))"},
		{"f~1", "EApp@5 (EVar@5 f, EInt@6 =-1)"},
		{"f true[]()", "EApp@5 (EApp@5 (EApp@5 (EVar@5 f, EBool@7 =1), ENil@11), EUnit@13)"},
		{"f false 1", "EApp@5 (EApp@5 (EVar@5 f, EBool@7), EInt@13 =1)"},
		{"do get x", "EDo@5 get (EVar@12 x)"},
		{"do get(x y)", "EDo@5 get (EApp@12 (EVar@12 x, EVar@14 y))"},
		{"fst p", "EFst@5 (EVar@9 p)"},
		{"snd(p)", "ESnd@5 (EVar@9 p)"},
		{"(fst p)q", "EApp@6 (EFst@6 (EVar@10 p), EVar@12 q)"},

		{"1*2*3", "EOp@5 * (EOp@5 * (EInt@5 =1, EInt@7 =2), EInt@9 =3)"},
		{"1+2-3", "EOp@5 - (EOp@5 + (EInt@5 =1, EInt@7 =2), EInt@9 =3)"},
		{"1-2*f x", "EOp@5 - (EInt@5 =1, EOp@7 * (EInt@7 =2, EApp@9 (EVar@9 f, EVar@11 x)))"},
		{"(1+2)*3", "EOp@6 * (EOp@6 + (EInt@6 =1, EInt@8 =2), EInt@11 =3)"},
		{"do a 1*fst b", "EOp@5 * (EDo@5 a (EInt@10 =1), EFst@12 (EVar@16 b))"},
		{"a::b::c", "ECons@5 (EVar@5 a, ECons@8 (EVar@8 b, EVar@11 c))"},
		{"(a::b)::c", "ECons@6 (ECons@6 (EVar@6 a, EVar@9 b), EVar@13 c)"},
		{"a+b::c", "ECons@5 (EOp@5 + (EVar@5 a, EVar@7 b), EVar@10 c)"},
		{"a<b", "EOp@5 < (EVar@5 a, EVar@7 b)"},
		{"a::b==c", "EOp@5 == (ECons@5 (EVar@5 a, EVar@8 b), EVar@11 c)"},
		{"(a)+b", "EOp@6 + (EVar@6 a, EVar@9 b)"},
		{"(((a)+b)::c<d;e)", "ESeq@8 (EOp@8 < (ECons@8 (EOp@8 + (EVar@8 a, EVar@11 b), EVar@15 c), EVar@17 d), EVar@19 e)"},
		{"(a,b)c", "EApp@5 (EPair@5 (EVar@6 a, EVar@8 b), EVar@10 c)"},
		{"[]::c", "ECons@5 (ENil@5, EVar@9 c)"},
		{"[a]::c", "ECons@6 (ECons@6 (EVar@6 a, ENil@5), EVar@10 c)"},
		{"a;b;c", "ESeq@5 (EVar@5 a, ESeq@7 (EVar@7 b, EVar@9 c))"},
		{"(a;b);c", "ESeq@6 (ESeq@6 (EVar@6 a, EVar@8 b), EVar@11 c)"},

		{"let x=1 in x", "ELet@5 x (EInt@11 =1, EVar@16 x)"},
		{"let f x y=1 in f", "ELet@5 f (EFn@11 x (EFn@13 y (EInt@15 =1)), EVar@20 f)"},
		{"let rec f x y=1 in f", "ELet@5 f =1 (EFn@15 x (EFn@17 y (EInt@19 =1)), EVar@24 f)"},
		{"let x=a;b in c;d", "ELet@5 x (ESeq@11 (EVar@11 a, EVar@13 b), ESeq@18 (EVar@18 c, EVar@20 d))"},
		{"fn x=>x", "EFn@5 x (EVar@11 x)"},
		{"fn x y z=>x;y", "EFn@5 x (EFn@10 y (EFn@12 z (ESeq@15 (EVar@15 x, EVar@17 y))))"},
		{"(fn x=>x)1", "EApp@6 (EFn@6 x (EVar@12 x), EInt@14 =1)"},
		{"if a then b else c;d", "EIf@5 (EVar@8 a, EVar@15 b, ESeq@22 (EVar@22 c, EVar@24 d))"},
		{"if a;b then fn x=>x else if c then d else e", "EIf@5 (ESeq@8 (EVar@8 a, EVar@10 b), EFn@17 x (EVar@23 x), EIf@30 (EVar@33 c, EVar@40 d, EVar@47 e))"},
		{"case l of[]=>0|x::r=>x end", "ECase@5 (EVar@10 l, EInt@18, PName@20 x, PName@23 r, EVar@26 x)"},
		{"handle a with{return x=>x}", "EHandle@5 (EVar@12 a, CReturn@19 x (EVar@29 x))"},
		{"shallow a with{return x=>x|get u k=>k 1|put v k=>k()}", "EHandle@5 =1 (EVar@13 a, CReturn@20 x (EVar@30 x), COp@32 get (PName@36 u, PName@38 k, EApp@41 (EVar@41 k, EInt@43 =1)), COp@45 put (PName@49 v, PName@51 k, EApp@54 (EVar@54 k, EUnit@55)))"},
	} {
		checkTree(t, "main="+c.text, "Prog@0 ("+c.want+")")
	}
}

// TestTypes: each text is what an operation takes, at 10.
func TestTypes(t *testing.T) {
	for _, c := range []struct{ text, want string }{
		{"int", "YInt@10"},
		{"bool", "YBool@10"},
		{"unit", "YUnit@10"},
		{"((int))", "YInt@12"},
		{"int list list", "YList@10 (YList@10 (YInt@10))"},
		{"(int list)list", "YList@11 (YList@11 (YInt@11))"},
		{"(int*bool)list", "YList@11 (YPair@11 (YInt@11, YBool@15))"},
		{"int*bool*unit", "YPair@10 (YInt@10, YPair@14 (YBool@14, YUnit@19))"},
		{"(int*bool)*unit", "YPair@11 (YPair@11 (YInt@11, YBool@15), YUnit@21)"},
		{"int->bool->unit", "YFn@10 (YInt@10, YFn@15 (YBool@15, YUnit@21))"},
		{"(int->bool)->unit", "YFn@11 (YFn@11 (YInt@11, YBool@16), YUnit@23)"},
		{"int list*bool->unit", "YFn@10 (YPair@10 (YList@10 (YInt@10), YBool@19), YUnit@25)"},
		{"int-{x}->bool", "YFn@10 (YInt@10, YBool@19, PName@15 x)"},
		{"(int)-{y,x,y}->bool->unit", "YFn@11 (YInt@11, YFn@25 (YBool@25, YUnit@31), PName@17 y, PName@19 x, PName@21 y)"},
	} {
		rest := "=>unit main=1"
		unit := 10 + len(c.text) + len("=>")
		want := "Prog@0 =1 (DOp@0 a =1 (" + c.want + ", YUnit@" + strconv.Itoa(unit) + "), EInt@" + strconv.Itoa(unit+10) + " =1)"
		checkTree(t, "op once a:"+c.text+rest, want)
	}
}

func TestPrograms(t *testing.T) {
	checkTree(t, " # a Prog is at 0\nmain = 1", "Prog@0 (EInt@25 =1)")
	checkTree(t, "op many a:int=>bool op once b:unit=>(int)main=a", "Prog@0 =2 (DOp@0 a (YInt@10, YBool@15), DOp@20 b =1 (YUnit@30, YInt@37), EVar@46 a)")
	checkTree(t, "def f x=x main=f", "Prog@0 (DLet@0 f (EFn@6 x (EVar@8 x)), EVar@15 f)")
	checkTree(t, "def rec f x y=(x)def g z=f main=g", "Prog@0 (DLet@0 f =1 (EFn@10 x (EFn@12 y (EVar@15 x))), DLet@17 g (EFn@23 z (EVar@25 f)), EVar@32 g)")
	checkTree(t, "op once a:int=>int def f x=x main=1", "Prog@0 =1 (DOp@0 a =1 (YInt@10, YInt@15), DLet@19 f (EFn@25 x (EVar@27 x)), EInt@34 =1)")
}
