package lexer_test

import (
	"regexp"
	"slices"
	"strconv"
	"strings"
	"testing"

	"effectus/api"
	"effectus/lexer"
)

var (
	gapForm    = regexp.MustCompile(`^([\t\n\r ]|#[^\n]*)+`)
	numberForm = regexp.MustCompile(`^[0-9]+`)
	goodNumber = regexp.MustCompile(`^(0|[1-9][0-9]*)$`)
	nameForm   = regexp.MustCompile(`^[A-Za-z_][A-Za-z0-9_]*`)
	wordForm   = regexp.MustCompile(`^(op|once|many|def|rec|main|let|in|fn|if|then|else|case|of|end|do|fst|snd|handle|shallow|with|return|true|false|int|bool|unit|list)$`)
	signForm   = regexp.MustCompile(`^(::|==|=>|->|[()\[\]{},;:=\-+*<|~])`)
)

// model is the chapter's first two promises written a second time, by patterns.
func model(text string) ([]api.Token, api.Fault) {
	if len(text) > api.MaxText {
		return nil, api.Fault{Kind: api.ErrLong}
	}
	var tokens []api.Token
	for at := 0; ; {
		at += len(gapForm.FindString(text[at:]))
		if at == len(text) {
			return append(tokens, end(at)), api.Fault{}
		}
		rest := text[at:]
		said := ""
		if said = numberForm.FindString(rest); said != "" {
			n, err := strconv.ParseUint(said, 10, 63)
			if err != nil || !goodNumber.MatchString(said) {
				return nil, api.Fault{Kind: api.ErrToken, At: at}
			}
			tokens = append(tokens, number(at, int(n)))
		} else if said = nameForm.FindString(rest); said != "" {
			if len(said) > api.MaxName {
				return nil, api.Fault{Kind: api.ErrToken, At: at}
			}
			if wordForm.MatchString(said) {
				tokens = append(tokens, word(at, said))
			} else {
				tokens = append(tokens, name(at, said))
			}
		} else if said = signForm.FindString(rest); said != "" {
			tokens = append(tokens, sign(at, said))
		} else {
			return nil, api.Fault{Kind: api.ErrByte, At: at}
		}
		at += len(said)
	}
}

func checkModel(t *testing.T, text string) {
	t.Helper()
	got, fault := lexer.Tokens(text)
	want, wantFault := model(text)
	if fault != wantFault || !slices.Equal(got, want) {
		t.Errorf("%q: %v %v, want %v %v", text, got, fault, want, wantFault)
	}
}

// eachText goes through all texts of at most most of the parts.
func eachText(parts []string, most int, yield func(string)) {
	yield("")
	if most == 0 {
		return
	}
	for _, p := range parts {
		eachText(parts, most-1, func(rest string) {
			yield(p + rest)
		})
	}
}

// P1.1 and P1.2: all short texts of parts that meet one another in every way.
func TestShortTexts(t *testing.T) {
	parts := []string{"a", "_", "in", "0", "7", " ", "\n", "#", "=", "-", ">", ":", "<", "$", "\xff", "\u0161"}
	eachText(parts, 4, func(text string) { checkModel(t, text) })
}

// P1.1: all texts of three bytes or fewer of those that make up signs.
func TestShortSigns(t *testing.T) {
	parts := strings.Split("()[]{},;:=-+*<|~>a", "")
	eachText(parts, 3, func(text string) { checkModel(t, text) })
}

// P1.1 and P1.2: numbers and names around their bounds, with what stands beside them.
func TestBounds(t *testing.T) {
	parts := []string{"922337203685477580", "7", "8", "0", "abcdefghijklmnopqrs", "t", "_", " ", "#", "\n", "-"}
	eachText(parts, 4, func(text string) { checkModel(t, text) })
}

// spaced is what the tokens say, with one blank between each two.
func spaced(tokens []api.Token) string {
	var said []string
	for _, k := range tokens {
		switch k.Kind {
		case api.TokInt:
			said = append(said, strconv.Itoa(k.N))
		case api.TokEnd:
		default:
			said = append(said, k.Text)
		}
	}
	return strings.Join(said, " ")
}

// placeless is the tokens without their places.
func placeless(tokens []api.Token) []api.Token {
	out := slices.Clone(tokens)
	for i := range out {
		out[i].At = 0
	}
	return out
}

func checkSpaced(t *testing.T, text string) {
	t.Helper()
	tokens, fault := lexer.Tokens(text)
	said := spaced(tokens)
	if fault.Kind != api.OK || len(said) > api.MaxText {
		return
	}
	again, fault := lexer.Tokens(said)
	if fault.Kind != api.OK || !slices.Equal(placeless(again), placeless(tokens)) {
		t.Errorf("%q, spaced %q: %v %v", text, said, again, fault)
	}
}

// P1.3: what the tokens say, spaced, has the same tokens.
func TestSpaced(t *testing.T) {
	for _, text := range programs {
		checkSpaced(t, text)
	}
	parts := []string{"a", "in", "0", "17", " ", "\n", "#", "=", "->", "-", ":", "=>", "<"}
	eachText(parts, 4, func(text string) { checkSpaced(t, text) })
}

func checkJoined(t *testing.T, a, b string) {
	t.Helper()
	first, faultA := lexer.Tokens(a)
	second, faultB := lexer.Tokens(b)
	if faultA.Kind != api.OK || faultB.Kind != api.OK || len(a)+1+len(b) > api.MaxText {
		return
	}
	want := first[:len(first)-1]
	for _, k := range second {
		k.At += len(a) + 1
		want = append(want, k)
	}
	checkTokens(t, a+"\n"+b, want...)
}

// P1.3: two texts with a byte 10 between them have the tokens of both.
func TestJoined(t *testing.T) {
	var texts []string
	eachText([]string{"a", "let", "0", "9", " ", "#", "=", "-", ">", ":"}, 2, func(text string) { texts = append(texts, text) })
	texts = append(texts, programs...)
	for _, a := range texts {
		for _, b := range texts {
			checkJoined(t, a, b)
		}
	}
	half := strings.Repeat("(", api.MaxText/2)
	checkJoined(t, half, half[1:])
	checkFault(t, half+"\n"+half, api.ErrLong, 0)
}

var programs = []string{
	`op once get : unit => int main = handle do get () + 1 with { return x => x | get u k => k 4 }`,
	`op many flip : unit => bool main = handle (do flip (), do flip ()) with { return x => [x] | flip u k => case k true of [] => k false | a :: l => a :: k false end }`,
	"op many fail : unit => int # a remark\ndef safe f = handle f () with { return x => x | fail u k => 0 }\r\nmain = safe (fn u => 1 + do fail ()) # the end",
	`def rec map f l = case l of [] => [] | x :: r => f x :: map f r end main = map (fn x => x * x) [1, 2, 3]`,
	"def rec loop i = if i == ~9223372036854775807 then i;i else loop(i<2*3)\n\tmain = let p=(fst q,snd q)in shallow loop 0 with{return x=>x}",
	`op once ask:int list*bool-{get}->unit=>int main=do ask()`,
}

// P1.1 and P1.2: whole programs, and each of them cut off or with one byte changed anywhere.
func TestPrograms(t *testing.T) {
	for _, text := range programs {
		if _, fault := lexer.Tokens(text); fault.Kind != api.OK {
			t.Errorf("%q: %v", text, fault)
		}
		for i := range text {
			checkModel(t, text[:i])
			for _, b := range []string{"", "$", "#", "0", "a", "\xff", "\n"} {
				checkModel(t, text[:i]+b+text[i+1:])
			}
		}
	}
}

func FuzzTokens(f *testing.F) {
	for _, text := range programs {
		f.Add(text)
	}
	f.Fuzz(func(t *testing.T, text string) {
		checkModel(t, text)
		checkSpaced(t, text)
		checkJoined(t, text, text)
	})
}
