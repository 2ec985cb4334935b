package lexer_test

import (
	"slices"
	"strings"
	"testing"

	"effectus/api"
	"effectus/lexer"
)

func word(at int, text string) api.Token { return api.Token{Kind: api.TokWord, At: at, Text: text} }
func name(at int, text string) api.Token { return api.Token{Kind: api.TokName, At: at, Text: text} }
func sign(at int, text string) api.Token { return api.Token{Kind: api.TokSign, At: at, Text: text} }
func number(at, n int) api.Token         { return api.Token{Kind: api.TokInt, At: at, N: n} }
func end(at int) api.Token               { return api.Token{Kind: api.TokEnd, At: at} }

// checkTokens wants just these tokens and no fault.
func checkTokens(t *testing.T, text string, want ...api.Token) {
	t.Helper()
	got, fault := lexer.Tokens(text)
	if fault != (api.Fault{}) || !slices.Equal(got, want) {
		t.Errorf("%q: %v %v, want %v", text, got, fault, want)
	}
}

// checkFault wants the fault and no tokens.
func checkFault(t *testing.T, text string, kind api.Errno, at int) {
	t.Helper()
	got, fault := lexer.Tokens(text)
	if fault != (api.Fault{Kind: kind, At: at}) || len(got) > 0 {
		t.Errorf("%q: %v %v, want kind %d at %d", text, got, fault, kind, at)
	}
}

// P1.1: the chapter's examples.
func TestExamples(t *testing.T) {
	checkTokens(t, "a==b", name(0, "a"), sign(1, "=="), name(3, "b"), end(4))
	checkTokens(t, "a = =b", name(0, "a"), sign(2, "="), sign(4, "="), name(5, "b"), end(6))
	checkTokens(t, "x-{get}->y", name(0, "x"), sign(1, "-"), sign(2, "{"), name(3, "get"), sign(6, "}"), sign(7, "->"), name(9, "y"), end(10))
	checkFault(t, "007", api.ErrToken, 0)
	checkTokens(t, "12ab", number(0, 12), name(2, "ab"), end(4))
	checkFault(t, "a$", api.ErrByte, 1)
	checkTokens(t, "# $", end(3))
}

// P1.1: numbers, up to the greatest one.
func TestNumbers(t *testing.T) {
	checkTokens(t, "0", number(0, 0), end(1))
	checkTokens(t, "10", number(0, 10), end(2))
	checkTokens(t, "9223372036854775807", number(0, 9223372036854775807), end(19))
	checkTokens(t, "0 0", number(0, 0), number(2, 0), end(3))
	checkTokens(t, "0x1", number(0, 0), name(1, "x1"), end(3))
	checkTokens(t, "1_0", number(0, 1), name(1, "_0"), end(3))
	checkTokens(t, "~3", sign(0, "~"), number(1, 3), end(2))
	checkTokens(t, "+3-4", sign(0, "+"), number(1, 3), sign(2, "-"), number(3, 4), end(4))
}

func TestNumbersThatAreNone(t *testing.T) {
	checkFault(t, "00", api.ErrToken, 0)
	checkFault(t, "01", api.ErrToken, 0)
	checkFault(t, "1 02", api.ErrToken, 2)
	checkFault(t, "a+00b", api.ErrToken, 2)
	checkFault(t, "9223372036854775808", api.ErrToken, 0)
	checkFault(t, "18446744073709551617", api.ErrToken, 0)
	checkFault(t, "x 92233720368547758070", api.ErrToken, 2)
	checkFault(t, strings.Repeat("9", api.MaxText), api.ErrToken, 0)
}

// P1.1: names, up to the longest one.
func TestNames(t *testing.T) {
	for _, text := range []string{"a", "Z", "_", "_1", "aB_9z", "lets", "Let", "LET", "i", "o", "lists", "_op", "done", "main2"} {
		checkTokens(t, text, name(0, text), end(len(text)))
	}
	long := "Abcdefghijklmnopq_89"
	checkTokens(t, long, name(0, long), end(api.MaxName))
	checkTokens(t, long+"+"+long, name(0, long), sign(20, "+"), name(21, long), end(41))
	checkFault(t, long+"r", api.ErrToken, 0)
	checkFault(t, long+"0", api.ErrToken, 0)
	checkFault(t, "1"+long+"_", api.ErrToken, 1)
	checkFault(t, strings.Repeat("a", api.MaxText), api.ErrToken, 0)
}

// P1.1: all words, and no other name.
func TestWords(t *testing.T) {
	const words = "op once many def rec main let in fn if then else case of end do fst snd handle shallow with return true false int bool unit list"
	all := strings.Fields(words)
	var want []api.Token
	at := 0
	for _, w := range all {
		checkTokens(t, w, word(0, w), end(len(w)))
		checkTokens(t, w+"x", name(0, w+"x"), end(len(w)+1))
		want = append(want, word(at, w))
		at += len(w) + 1
	}
	checkTokens(t, words, append(want, end(len(words)))...)
}

// P1.1: all signs, each as long as it can be.
func TestSigns(t *testing.T) {
	for s := range strings.FieldsSeq("( ) [ ] { } , ; : :: = == => -> - + * < | ~") {
		checkTokens(t, s, sign(0, s), end(len(s)))
		checkTokens(t, "a"+s+"1", name(0, "a"), sign(1, s), number(1+len(s), 1), end(2+len(s)))
	}
	checkTokens(t, "===", sign(0, "=="), sign(2, "="), end(3))
	checkTokens(t, "=>=", sign(0, "=>"), sign(2, "="), end(3))
	checkTokens(t, ":::", sign(0, "::"), sign(2, ":"), end(3))
	checkTokens(t, "-->", sign(0, "-"), sign(1, "->"), end(3))
	checkTokens(t, "- {", sign(0, "-"), sign(2, "{"), end(3))
	checkTokens(t, "[]()", sign(0, "["), sign(1, "]"), sign(2, "("), sign(3, ")"), end(4))
	checkFault(t, "==>", api.ErrByte, 2)
	checkFault(t, "- >", api.ErrByte, 2)
	checkFault(t, "=\n>", api.ErrByte, 2)
}

// P1.1: blanks and remarks stand between tokens and are none.
func TestBlanksAndRemarks(t *testing.T) {
	checkTokens(t, "", end(0))
	checkTokens(t, " \t\r\n", end(4))
	checkTokens(t, "\ta\r\nb ", name(1, "a"), name(4, "b"), end(6))
	checkTokens(t, "#", end(1))
	checkTokens(t, "#\n", end(2))
	checkTokens(t, "a#", name(0, "a"), end(2))
	checkTokens(t, "a# b", name(0, "a"), end(4))
	checkTokens(t, "a# b\n", name(0, "a"), end(5))
	checkTokens(t, "a#b\nc", name(0, "a"), name(4, "c"), end(5))
	checkTokens(t, "=# # \r 007\n=", sign(0, "="), sign(11, "="), end(12))
	checkTokens(t, "#\n#\n1#", number(4, 1), end(6))
	checkTokens(t, "# \x00\xff\xc3\n1 # \u00e9\u4e16\xe4", number(6, 1), end(16))
	checkFault(t, "# $\n$", api.ErrByte, 4)
}

// P1.1: what each byte is, when it stands alone.
func TestEachByte(t *testing.T) {
	for b := range 256 {
		text := string([]byte{byte(b)})
		switch {
		case strings.Contains("\t\n\r #", text):
			checkTokens(t, text, end(1))
		case '0' <= b && b <= '9':
			checkTokens(t, text, number(0, b-'0'), end(1))
		case 'a' <= b && b <= 'z' || 'A' <= b && b <= 'Z' || b == '_':
			checkTokens(t, text, name(0, text), end(1))
		case strings.Contains("()[]{},;:=-+*<|~", text):
			checkTokens(t, text, sign(0, text), end(1))
		default:
			checkFault(t, text, api.ErrByte, 0)
			checkFault(t, "ab"+text+"c", api.ErrByte, 2)
			checkFault(t, "12"+text+"3", api.ErrByte, 2)
			checkFault(t, "("+text, api.ErrByte, 1)
		}
	}
}

// P1.1: runes whose last byte is that of a letter, a digit, a blank, a sign or a '#' are none of these.
func TestRunesAreNoBytes(t *testing.T) {
	for _, r := range []rune{0x161, 0x130, 0x120, 0x10a, 0x13d, 0x123, 0x660, 0xa0, 0x2028, 0xfffd, 0x10061} {
		checkFault(t, string(r), api.ErrByte, 0)
		checkFault(t, "a"+string(r)+"b", api.ErrByte, 1)
		checkFault(t, "1"+string(r), api.ErrByte, 1)
		checkTokens(t, "#"+string(r)+"\n", end(2+len(string(r))))
	}
}

// P1.2: a text of MaxText bytes, and one of one byte more.
func TestLongTexts(t *testing.T) {
	checkTokens(t, strings.Repeat(" ", api.MaxText), end(api.MaxText))
	checkTokens(t, "#"+strings.Repeat("$", api.MaxText-1), end(api.MaxText))
	got, fault := lexer.Tokens(strings.Repeat("(", api.MaxText))
	if fault != (api.Fault{}) || len(got) != api.MaxText+1 || got[api.MaxText] != end(api.MaxText) {
		t.Errorf("MaxText signs: %d tokens, %v", len(got), fault)
	}
	checkFault(t, strings.Repeat("(", api.MaxText-1)+"$", api.ErrByte, api.MaxText-1)
	for _, s := range []string{" ", "a", "$", "0", "(", "#", "\xff"} {
		checkFault(t, strings.Repeat(s, api.MaxText+1), api.ErrLong, 0)
	}
}

// P1.2: of several faults the first from the left is told.
func TestFirstFault(t *testing.T) {
	long := strings.Repeat("a", api.MaxName+1)
	checkFault(t, "1 $ 007", api.ErrByte, 2)
	checkFault(t, "1 007 $", api.ErrToken, 2)
	checkFault(t, "1 "+long+"$", api.ErrToken, 2)
	checkFault(t, "$"+long, api.ErrByte, 0)
	checkFault(t, "007"+long, api.ErrToken, 0)
	checkFault(t, "7"+long+" 00", api.ErrToken, 1)
	checkFault(t, "@ $", api.ErrByte, 0)
}

// An answer is the caller's own: what is done to it is not seen in the next one.
func TestAnswersAreNew(t *testing.T) {
	const text = "let x = 1"
	first, _ := lexer.Tokens(text)
	clear(first)
	checkTokens(t, text, word(0, "let"), name(4, "x"), sign(6, "="), number(8, 1), end(9))
}
