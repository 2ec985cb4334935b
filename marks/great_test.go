package marks_test

import (
	"fmt"
	"strings"
	"testing"

	"effectus/api"
)

// checkGreat: of a text that is not too long, how many terms are not calm.
func checkGreat(t *testing.T, text string, want int) {
	t.Helper()
	if len(text) > api.MaxText {
		t.Fatalf("%.60s: %d bytes", text, len(text))
	}
	checkModel(t, text)
	_, list := marked(t, text)
	got := 0
	for _, calm := range list {
		if !calm {
			got++
		}
	}
	if got != want {
		t.Errorf("%.60s..: %d terms of %d are not calm, want %d", text, got, len(list), want)
	}
}

// TestLongRows: terms that are as deep as a text has room for; the innermost one is calm, or it is not, and so are all around it.
func TestLongRows(t *testing.T) {
	for _, row := range []struct {
		ahead, part, behind string
		times, notCalm      int // how many parts there are; how many terms of each are not calm
	}{
		{"main=", "1+", "1", 1400, 0}, {"main=fn g=>g 1", "+1", "", 1400, 1}, {"main=fn g=>", "1::", "g 1", 900, 1}, {"main=[", "1,", "2]", 1400, 0},
		{"def f x=x main=", "f(", "1", api.MaxDepth - 2, 0}, {"def f x=x main=fn g=>", "f(", "g 1", api.MaxDepth - 3, 1}, {"def f x=x main=fn f=>", "f(", "f 1", api.MaxDepth - 3, 1},
		{"main=fn g=>", "let x=1 in ", "g 1", api.MaxDepth - 2, 1}, {"main=fn g=>", "let rec f x=1 in ", "g 1", 170, 1}, {"main=fn g=>", "1;", "g 1", api.MaxDepth - 2, 1},
	} {
		closing := row.times * strings.Count(row.part, "(")
		text := row.ahead + strings.Repeat(row.part, row.times) + row.behind + strings.Repeat(")", closing)
		checkGreat(t, text, row.notCalm*(row.times+1))
	}
}

// TestManyFunctions: each function calls the one ahead of it; the first one does something, or nothing.
func TestManyFunctions(t *testing.T) {
	const times = 100
	for body, notCalm := range map[string]int{"x": 0, "do a x": times + 1} {
		text := "op many a:int=>int def f0 x=" + body + " "
		for i := range times {
			text += fmt.Sprintf("def f%d x=f%d x ", i+1, i)
		}
		checkGreat(t, text+"main=1", notCalm)
	}
}

// TestWithinOneAnother: each function calls the one around it, so that what is not calm is found from the outermost one to the innermost.
func TestWithinOneAnother(t *testing.T) {
	const times = 80
	for last, notCalm := range map[string]int{"1": 0, "do a 1": 2*times + 1} {
		body := fmt.Sprintf("f%d x", times-1)
		for i := times - 1; i > 0; i-- {
			body = fmt.Sprintf("let rec f%d x=%s in f%d x", i+1, body, i-1)
		}
		checkGreat(t, "op many a:int=>int def rec f0 x=let rec f1 x="+body+" in "+last+" main=1", notCalm)
	}
}
