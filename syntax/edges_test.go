package syntax_test

import (
	"math"
	"strconv"
	"strings"
	"testing"

	"effectus/api"
	"effectus/syntax"
)

// nested puts a thing into as many brackets as depth says.
func nested(depth int, thing string) string {
	return strings.Repeat("(", depth) + thing + strings.Repeat(")", depth)
}

// checkDepth: with the thing in one bracket more at the ^ it stands within MaxDepth others.
func checkDepth(t *testing.T, ahead, marked, thing, behind string, fits int) {
	t.Helper()
	here, rest, _ := strings.Cut(marked, "^")
	read(t, ahead+nested(fits, here+"("+thing+")"+rest)+behind)
	at := len(ahead) + fits + 1 + len(here) + 1
	checkFault(t, ahead+nested(fits+1, here+"("+thing+")"+rest)+behind, api.ErrDeep, at)
	deep := ahead + strings.Repeat("(", fits+1) + here + "("
	for _, wrong := range []string{"", "=", "then", thing + " $", "list"} {
		checkFault(t, deep+wrong, api.ErrDeep, at)
	}
	checkFault(t, deep+"$", api.ErrByte, at)
	checkFault(t, deep+"007", api.ErrToken, at)
}

// TestDepthOfExpressions: the ^ is each place at which an expression stands within another.
func TestDepthOfExpressions(t *testing.T) {
	for _, marked := range []string{
		"(^,1)", "(1,^)", "[^]", "[1,2,^,3]", "1;^", "fn x=>^", "fn x y z=>^", "let x=^ in 1", "let x=1 in ^", "let f x y=^ in 1",
		"let rec f x=^ in 1", "let rec f x=1 in ^", "if ^ then 1 else 1", "if 1 then ^ else 1", "if 1 then 1 else ^",
		"case ^ of []=>1|x::y=>1 end", "case 1 of []=>^|x::y=>1 end", "case 1 of []=>1|x::y=>^ end",
		"handle ^ with{return x=>1|a b c=>1}", "handle 1 with{return x=>^|a b c=>1}", "shallow 1 with{return x=>1|a b c=>1|a b c=>^}",
	} {
		for _, place := range []struct{ ahead, behind string }{
			{"main=", ""}, {"def f x=", " main=1"}, {"def rec f x y=1 main=", ""}, {"op many a:(int)=>int main=", ""},
		} {
			checkDepth(t, place.ahead, marked, "1", place.behind, api.MaxDepth-3)
		}
	}
	// These do not stand within another, however many there are.
	for _, marked := range []string{"^", "^+1", "1*2*3*^", "1::2::3::4::^", "1<^", "a b c ^", "do a^", "fst^", "snd^", "^;1"} {
		checkDepth(t, "main=", marked, "1", "", api.MaxDepth-2)
	}
}

func TestDepthOfTypes(t *testing.T) {
	for _, place := range []struct{ ahead, behind string }{
		{"op many a:", "=>int main=1"}, {"op many a:int=>", " main=1"}, {"op once a:int=>int op many a:int->int=>", " def f x=(x)main=1"},
	} {
		for _, marked := range []string{"int->^", "int-{a,b}->^", "int*int list->^"} {
			checkDepth(t, place.ahead, marked, "int", place.behind, api.MaxDepth-3)
		}
		for _, marked := range []string{"^", "^list list", "^*int", "int*int*^", "^->int", "^-{a,b}->int"} {
			checkDepth(t, place.ahead, marked, "int", place.behind, api.MaxDepth-2)
		}
	}
}

// TestDepthOfRows: long rows that need no brackets, up to the last one that may be read.
func TestDepthOfRows(t *testing.T) {
	for _, c := range []struct{ ahead, part, last, behind string }{
		{"main=", "a;", "a", ""},
		{"main=", "fn x=>", "1", ""},
		{"op many a:", "int->", "int", "=>int main=1"},
	} {
		row := c.ahead + strings.Repeat(c.part, api.MaxDepth-1)
		read(t, row+c.last+c.behind)
		checkFault(t, row+c.part+c.last+c.behind, api.ErrDeep, len(row+c.part))
	}
}

// TestEmptyBracketsWithin: what is no expression is not too deep.
func TestEmptyBracketsWithin(t *testing.T) {
	for _, empty := range []string{"()", "[]"} {
		text := "main=" + nested(api.MaxDepth-1, empty)
		read(t, text)
		checkFault(t, "main="+nested(api.MaxDepth, empty), api.ErrDeep, len("main=")+api.MaxDepth)
		checkFault(t, "main="+strings.Repeat("(", api.MaxDepth-1)+empty+"=", api.ErrSyntax, len("main=()")+api.MaxDepth-1)
	}
	// What follows no expression's beginning is looked at, but one would be read there.
	checkFault(t, "main="+strings.Repeat("[", api.MaxDepth)+")", api.ErrDeep, len("main=")+api.MaxDepth)
}

func TestLongTexts(t *testing.T) {
	short := "main=1"
	read(t, short+strings.Repeat(" ", api.MaxText-len(short)))
	read(t, strings.Repeat("\n", api.MaxText-len(short))+short)
	checkFault(t, short+strings.Repeat(" ", api.MaxText-len(short)+1), api.ErrLong, 0)
	checkFault(t, strings.Repeat("$", api.MaxText+1), api.ErrLong, 0)
	checkFault(t, strings.Repeat("$", api.MaxText), api.ErrByte, 0)
	checkFault(t, strings.Repeat(" ", api.MaxText), api.ErrSyntax, api.MaxText)
	checkFault(t, "main="+strings.Repeat(" ", api.MaxText-5), api.ErrSyntax, api.MaxText)
}

// fill repeats a part as often as it stands between the two others in a text that is not too long.
func fill(ahead, part, behind string) (string, int) {
	times := (api.MaxText - len(ahead) - len(behind)) / len(part)
	return ahead + strings.Repeat(part, times) + behind, times
}

// TestLongRows: rows that are as long as a text can be; their trees are as deep, or have as many nodes, as a tree can have.
func TestLongRows(t *testing.T) {
	for _, c := range []struct {
		ahead, part, behind string
		before, each, end   string
	}{
		{"main=", "1+", "1", "main =", " 1 +", " 1"},
		{"main=", "1*", "1", "main =", " 1 *", " 1"},
		{"main=", "1::", "1", "main =", " 1 ::", " 1"},
		{"main=", "f ", "f", "main =", " f", " f"},
		{"main=[", "1,", "1]", "main =", " 1 ::", " 1 :: [ ]"},
		{"main=f", "[1]", "", "main = f", " ( 1 :: [ ] )", ""},
		{"main=f", "()", "", "main = f", " ( )", ""},
		{"main=fn x", " x", "=>1", "main = fn x", " => fn x", " => 1"},
		{"def f x", " x", "=1 main=1", "def f x =", " fn x =>", " 1 main = 1"},
		{"def rec f x", " x", "=1 main=1", "def rec f x =", " fn x =>", " 1 main = 1"},
		{"main=let f", " x", "=1 in 1", "main = let f =", " fn x =>", " 1 in 1"},
		{"main=let rec f x", " x", "=1 in 1", "main = let rec f x =", " fn x =>", " 1 in 1"},
		{"main=1", "\n#\n", "", "main = 1", "", ""},
		{"", "def f x=1 ", "main=1", "", "def f x = 1 ", "main = 1"},
		{"", "op many a:int=>int ", "main=1", "", "op many a : int => int ", "main = 1"},
		{"op many a:int", " list", "=>int main=1", "op many a : int", " list", " => int main = 1"},
		{"op many a:int", "*int", "=>int main=1", "op many a : int", " * int", " => int main = 1"},
		{"op many a:int-{a", ",a", "}->int=>int main=1", "op many a : int - { a", " , a", " } -> int => int main = 1"},
		{"main=handle 1 with{return x=>1", "|a b c=>1", "}", "main = handle 1 with { return x => 1", " | a b c => 1", " }"},
	} {
		text, times := fill(c.ahead, c.part, c.behind)
		want := c.before + strings.Repeat(c.each, times) + c.end
		if got := syntax.Print(read(t, text)); got != want {
			t.Errorf("%.60q..: %.90q.., want %.90q..", text, got, want)
		}
	}
}

// TestPrintedTooLong: what is printed may be longer than a text; Parse says so.
func TestPrintedTooLong(t *testing.T) {
	text, _ := fill("main=", "1+", "1")
	printed := syntax.Print(read(t, text))
	if len(printed) <= api.MaxText {
		t.Fatalf("only %d bytes", len(printed))
	}
	checkFault(t, printed, api.ErrLong, 0)
}

func TestNumbers(t *testing.T) {
	for _, n := range []int{0, 1, -1, 10, math.MaxInt, -math.MaxInt} {
		digits := strings.TrimPrefix(strconv.Itoa(n), "-")
		text := "main = " + digits
		if n < 0 {
			text = "main = ~ " + digits
		}
		tree := read(t, text)
		if tree.Kids[0].N != n || syntax.Print(tree) != text {
			t.Errorf("%s: %s, printed %q", text, show(tree, false), syntax.Print(tree))
		}
	}
	if got := syntax.Print(read(t, "main = ~0")); got != "main = 0" {
		t.Errorf("~0 is printed %q", got)
	}
	checkMarked(t, "main = ^9223372036854775808", api.ErrToken)
	checkMarked(t, "main = ~^9223372036854775808", api.ErrToken)
}
