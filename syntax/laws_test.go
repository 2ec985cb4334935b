package syntax_test

import (
	"math/rand/v2"
	"slices"
	"strconv"
	"strings"
	"testing"

	"effectus/api"
	"effectus/lexer"
	"effectus/syntax"
)

func checkModel(t *testing.T, rules map[string]*form, text string) (api.Node, bool) {
	t.Helper()
	got, fault := syntax.Parse(text)
	want, wantFault := model(rules, text)
	if fault != wantFault || show(got, false) != show(want, false) {
		t.Errorf("%q:\ngot  %v %s\nwant %v %s", text, fault, show(got, false), wantFault, show(want, false))
	}
	return got, fault.Kind == api.OK
}

// said is what a token was written as.
func said(token api.Token) string {
	if token.Kind == api.TokInt {
		return strconv.Itoa(token.N)
	}
	return token.Text
}

func wordsOf(text string) []string {
	tokens, _ := lexer.Tokens(text)
	var words []string
	for _, token := range tokens {
		if token.Kind != api.TokEnd {
			words = append(words, said(token))
		}
	}
	return words
}

func heightOf(n api.Node) int {
	height := 0
	for _, kid := range n.Kids {
		height = max(height, heightOf(kid))
	}
	return height + 1
}

// checkPrinted: P2.3's and P2.4's laws of a tree that was read.
func checkPrinted(t *testing.T, tree api.Node) {
	t.Helper()
	printed := syntax.Print(tree)
	if len(printed) > api.MaxText || heightOf(tree) > api.MaxDepth {
		return
	}
	same, fault := syntax.Parse(printed)
	if fault.Kind != api.OK || show(same, true) != show(tree, true) {
		t.Errorf("%q is read as %v %s, not as %s", printed, fault, show(same, true), show(tree, true))
	}
	if again := syntax.Print(same); again != printed {
		t.Errorf("%q is printed again as %q", printed, again)
	}
	words := wordsOf(printed)
	if strings.Join(words, " ") != printed {
		t.Errorf("%q has not one blank between each two tokens", printed)
	}
	checkForms(t, words)
	checkBrackets(t, words, show(tree, true))
}

// checkForms: functions and lists have one form each.
func checkForms(t *testing.T, words []string) {
	t.Helper()
	text := " " + strings.Join(words, " ") + " "
	for i, word := range words {
		at := func(behind int) string { return words[min(i+behind, len(words)-1)] }
		switch {
		case word == "fn" && at(2) != "=>",
			word == "let" && at(1) != "rec" && at(2) != "=",
			word == "let" && at(1) == "rec" && at(4) != "=",
			word == "def" && at(1) != "rec" && at(3) != "=",
			word == "def" && at(1) == "rec" && at(4) != "=",
			word == "[" && at(1) != "]",
			word == "~" && at(1) == "0":
			t.Errorf("%q is not written as it is to be at %q", text, word)
		}
	}
}

// checkBrackets: without any two of its brackets that stand around a thing the text is another one.
func checkBrackets(t *testing.T, words []string, shown string) {
	t.Helper()
	var open []int
	for i, word := range words {
		if word == "(" {
			open = append(open, i)
		}
		if word != ")" {
			continue
		}
		first := open[len(open)-1]
		open = open[:len(open)-1]
		less := slices.Concat(words[:first], words[first+1:i], words[i+1:])
		if n, fault := syntax.Parse(strings.Join(less, " ")); fault.Kind == api.OK && show(n, true) == shown {
			t.Errorf("%q: the brackets at word %d need not be there", strings.Join(words, " "), first)
		}
	}
}

// writer makes texts by the grammar.
type writer struct {
	rules map[string]*form
	rand  *rand.Rand
	left  int
	words []string
}

func (w *writer) write(f *form) {
	w.left--
	switch f.what {
	case quoted:
		if f.said != "" {
			w.words = append(w.words, f.said)
		}
	case "name":
		w.words = append(w.words, w.pick("a", "f", "x", "get", "_1", "recs", "a2345678901234567890"))
	case "number":
		w.words = append(w.words, w.pick("0", "1", "42", "9223372036854775807"))
	case choices:
		w.write(f.parts[w.choice(f)])
	case row, "(":
		for _, part := range f.parts {
			w.write(part)
		}
	case maybe, again:
		for w.left > 0 && w.rand.IntN(3) == 0 {
			w.write(f.parts[0])
			if f.what == maybe {
				break
			}
		}
	default:
		w.write(w.rules[f.what])
	}
}

// choice takes, when nothing is left, one that goes no deeper: the last of expr and app, the first of all others.
func (w *writer) choice(f *form) int {
	switch {
	case w.left > 0:
		return w.rand.IntN(len(f.parts))
	case f == w.rules["expr"] || f == w.rules["app"]:
		return len(f.parts) - 1
	}
	return 0
}

func (w *writer) pick(words ...string) string {
	return words[w.rand.IntN(len(words))]
}

// join puts anything that may stand between tokens between words.
func (w *writer) join(words []string) string {
	text := w.pick("", " ", "# $ 007\n")
	for _, word := range words {
		text += word + w.pick(" ", " ", " ", "\n", "\t\r", " # main = 1\n")
	}
	return text
}

// spoil makes one or two words others.
func (w *writer) spoil(words []string) []string {
	words = slices.Clone(words)
	for range 1 + w.rand.IntN(2) {
		i := w.rand.IntN(len(words) + 1)
		other := w.pick("(", ")", "[", "]", "{", "}", ",", ";", ":", "::", "=", "==", "=>", "->", "-", "+", "*", "<", "|", "~", "op", "once", "many", "def", "rec", "main", "let", "in", "fn", "if", "then", "else", "case", "of", "end", "do", "fst", "snd", "handle", "shallow", "with", "return", "true", "false", "int", "bool", "unit", "list", "x", "7", "$", "007", "a23456789012345678901")
		switch {
		case i == len(words):
			words = append(words, other)
		case w.rand.IntN(2) == 0:
			words[i] = other
		case w.rand.IntN(2) == 0:
			words = slices.Delete(words, i, i+1)
		default:
			words = slices.Insert(words, i, other)
		}
	}
	return words
}

func TestTextsOfTheGrammar(t *testing.T) {
	w := &writer{rules: rulesOf(grammar), rand: rand.New(rand.NewPCG(1, 2))}
	for i := range 2000 {
		w.words, w.left = nil, i%250
		w.write(&form{what: "prog"})
		if text := w.join(w.words); len(text) <= api.MaxText {
			tree, ok := checkModel(t, w.rules, text)
			if !ok {
				t.Errorf("%q is of the grammar", text)
			}
			checkPrinted(t, tree)
		}
		for range 4 {
			if tree, ok := checkModel(t, w.rules, w.join(w.spoil(w.words))); ok {
				checkPrinted(t, tree)
			}
		}
	}
}

// eachRow goes through all rows of at most most words.
func eachRow(words []string, most int, yield func(string)) {
	yield("")
	if most == 0 {
		return
	}
	for _, word := range words {
		eachRow(words, most-1, func(rest string) { yield(word + " " + rest) })
	}
}

func TestShortTexts(t *testing.T) {
	rules := rulesOf(grammar)
	check := func(text string) {
		if tree, ok := checkModel(t, rules, text); ok {
			checkPrinted(t, tree)
		}
	}
	eachRow([]string{"op", "once", "many", "def", "rec", "main", "=", "a", "1", ":", "=>", "int"}, 4, check)
	eachRow([]string{"a", "1", "~", "(", ")", "[", "]", ",", ";", "==", "::", "+", "-", "*", "do", "fst"}, 4, func(row string) { check("main = " + row) })
	eachRow([]string{"int", "list", "(", ")", "*", "->", "-", "{", "a", ",", "}", "=>"}, 4, func(row string) { check("op many a : " + row + "main = 1") })
	eachRow([]string{"let", "rec", "a", "=", "1", "in", "fn", "=>", "if", "then", "else", "$"}, 4, func(row string) { check("main = " + row) })
}

func FuzzParse(f *testing.F) {
	for _, seed := range []string{"main = (1+2)*3", "op many a:int-{a}->int=>int def f x=x main=[1,2]", "main = handle do a 1 with { return x => x | a p k => k p }"} {
		f.Add(seed)
	}
	rules := rulesOf(grammar)
	f.Fuzz(func(t *testing.T, text string) {
		if tree, ok := checkModel(t, rules, text); ok {
			checkPrinted(t, tree)
		}
	})
}
