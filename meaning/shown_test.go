package meaning_test

import (
	"strconv"
	"strings"
	"testing"

	"effectus/api"
)

// cut is a text as it is shown.
func cut(text string) string {
	if len(text) > api.MaxShown {
		return text[:api.MaxShown] + "..."
	}
	return text
}

// TestShownLength: values of all lengths around the greatest that is shown whole.
func TestShownLength(t *testing.T) {
	ahead := "def rec ones n l = if n < 1 then l else ones (n - 1) (1 :: l) "
	for length := 1; length < 300; length++ {
		for _, last := range []int{1, 12, 123} { // so that all lengths of a text are there
			want := "[" + strings.Repeat("1, ", length) + strconv.Itoa(last) + "]"
			checkValues(t, ahead, [][2]string{{"ones " + strconv.Itoa(length) + " [" + strconv.Itoa(last) + "]", cut(want)}})
		}
	}
	exact := "[" + strings.Repeat("1, ", 132) + "12]"
	if len(exact) != api.MaxShown {
		t.Errorf("%d bytes", len(exact))
	}
	checkValues(t, ahead, [][2]string{
		{"ones 132 [1]", exact[:len(exact)-2] + "]"}, {"ones 132 [12]", exact}, {"ones 132 [123]", exact[:len(exact)-1] + "3..."}, {"ones 133 [1]", exact[:len(exact)-2] + ", ..."},
		{"(ones 132 [12], 1)", cut("(" + exact + ", 1)")}, {"(1, ones 131 [12])", cut("(1, [" + strings.Repeat("1, ", 131) + "12])")}, {"(1, ones 130 [12])", "(1, [" + strings.Repeat("1, ", 130) + "12])"},
	})
}

// TestShownDeep: what stands within one another is shown up to where there is too much of it.
func TestShownDeep(t *testing.T) {
	for calls := 45; calls < 60; calls++ {
		depth := 4*calls + calls%4
		text := strings.Repeat("f (", calls) + strings.Repeat("[", calls%4) + "1" + strings.Repeat("]", calls%4) + strings.Repeat(")", calls)
		want := strings.Repeat("[", depth) + "1" + strings.Repeat("]", depth)
		checkValues(t, "def f x = [[[[x]]]] ", [][2]string{{text, cut(want)}})
	}
	text, want := "let p = (1, 2) in ", "(1, 2)"
	for range 6 {
		text += "let p = (p, p) in "
		want = "(" + want + ", " + want + ")"
		checkValues(t, "", [][2]string{{text + "p", cut(want)}})
	}
}

// TestShownGreat: a list of as many lists of as many lists, and so on: no time would be enough to go through all of it.
func TestShownGreat(t *testing.T) {
	ahead := "def rec times n x = if n < 1 then [] else x :: times (n - 1) x def t x = times 9 x "
	levels := 20
	text := strings.Repeat("t (", levels) + "1" + strings.Repeat(")", levels)
	nine := "[" + strings.Repeat("1, ", 8) + "1]"
	checkValues(t, ahead, [][2]string{
		{"t 1", nine}, {"t (t 1)", "[" + strings.Repeat(nine+", ", 8) + nine + "]"},
		{text, cut(strings.Repeat("[", levels-2) + "[" + strings.Repeat(nine+", ", 8) + nine + "], [" + strings.Repeat(nine+", ", 8))},
		{"(" + text + ", " + text + ")", cut("(" + strings.Repeat("[", levels-2) + "[" + strings.Repeat(nine+", ", 8) + nine + "], [" + strings.Repeat(nine+", ", 8))},
	})
}
