package rows_test

import (
	"math/rand/v2"
	"slices"
	"strings"
	"testing"

	"effectus/api"
	"effectus/rows"
)

// TestShow: each text is the one that Show writes of the type that it stands for.
func TestShow(t *testing.T) {
	for _, text := range []string{
		"int", "bool", "unit", "a", "b", "y", "z", "a27", "a28", "a52", "a1000000000",
		"int list", "a list list list", "int * bool", "a * b * c", "(a * b) * c", "(a * b) * c * d", "((a * b) * c) * d", "a * (b * c) * d",
		"(int * bool) list", "int list * bool", "int * bool list", "(int list * bool list) list", "a list list * (b * c list) list",
		"a -> b", "a -> b -> c", "(a -> b) -> c", "((a -> b) -> c) -> d", "(a -> b) -> c -> d", "a -> (b -> c) -> d",
		"a * b -> c", "a -> b * c", "(a -> b) * c", "a * (b -> c)", "a * (b -> c) * d", "(a -> b) list", "a list -> b list", "(a -> b) list -> c * (d -> e)",
		"(a * b -> c) list list", "a * b -> c * d -> e", "((a -> b) * (c -> d)) list",
		"a -{x}-> b", "a -{x, y}-> b", "a -{x, x, y}-> b", "a -{| r1}-> b", "a -{x | r1}-> b", "a -{x, y, z | r1000000000}-> b", "a -{| r27}-> a27",
		"(a -{x}-> b) -{y}-> c", "a -{x}-> b -{y}-> c", "(a -{x | r1}-> b) list", "(a -{| r1}-> b) * c -{| r2}-> d",
		"int -{get, put | r1}-> bool", "(a -{| r1}-> b) -> a list -{| r1}-> b list", "(unit -{fail | r1}-> int) -{| r1}-> int",
		"a -{A, _, a1, a10, a2}-> b",
	} {
		if got := rows.Show(ty(text)); got != text {
			t.Errorf("%q, want %q", got, text)
		}
	}
}

func TestShowAnyName(t *testing.T) {
	i := api.Type{Kind: api.TyInt}
	for text, x := range map[string]api.Type{
		"int -{\x00, é, \xff | r2}-> int": fn(i, i, 2, "\x00", "é", "\xff"),
		"int -{ ,  , int list}-> int":     fn(i, i, 0, " ", " ", "int list"),
		"int -{|}-> int":                  fn(i, i, 0, "|"),
	} {
		if got := rows.Show(x); got != text {
			t.Errorf("%q, want %q", got, text)
		}
	}
}

// TestShowDeep: types as great as they may be.
func TestShowDeep(t *testing.T) {
	i := api.Type{Kind: api.TyInt}
	if got, want := rows.Show(lists(api.MaxType-1, i)), "int"+strings.Repeat(" list", api.MaxType-1); got != want {
		t.Errorf("lists: %q", got)
	}
	left, right := i, i
	for range api.MaxType/2 - 1 {
		left, right = fn(left, i, 0), fn(i, right, 0)
	}
	if got, want := rows.Show(left), strings.Repeat("(", api.MaxType/2-2)+"int -> int"+strings.Repeat(") -> int", api.MaxType/2-2); got != want {
		t.Errorf("arrows to the left: %q", got)
	}
	if got, want := rows.Show(right), strings.Repeat("int -> ", api.MaxType/2-1)+"int"; got != want {
		t.Errorf("arrows to the right: %q", got)
	}
	if got, want := rows.Show(fn(i, i, 9, ops("x", api.MaxType-3)...)), "int -{"+strings.Join(ops("x", api.MaxType-3), ", ")+" | r9}-> int"; got != want {
		t.Errorf("a long row: %q", got)
	}
}

// spaced writes tokens of a type with blanks just where Show has them.
func spaced(tokens []string) string {
	text := ""
	for i, token := range tokens {
		if i > 0 && tokens[i-1] != "(" && tokens[i-1] != "-{" && !slices.Contains([]string{")", ",", "}->"}, token) {
			text += " "
		}
		text += token
	}
	return text
}

// TestShowIsRead: what is written stands for the type, without a bracket that need not be there, and without other blanks.
func TestShowIsRead(t *testing.T) {
	m := &maker{rand: rand.New(rand.NewPCG(3, 4)), vars: 60, rowVars: 30}
	for i := range 3000 {
		want := m.make(i % 40)
		text := rows.Show(want)
		if !equal(ty(text), want) {
			t.Errorf("%s is written of %s", text, bare(want))
		}
		tokens := typeTokens.FindAllString(text, -1)
		if spaced(tokens) != text {
			t.Errorf("%q: the blanks are not as they are to be", text)
		}
		checkBrackets(t, tokens, want)
	}
}

func checkBrackets(t *testing.T, tokens []string, want api.Type) {
	t.Helper()
	var open []int
	for i, token := range tokens {
		if token == "(" {
			open = append(open, i)
		}
		if token != ")" {
			continue
		}
		first := open[len(open)-1]
		open = open[:len(open)-1]
		less := slices.Concat(tokens[:first], tokens[first+1:i], tokens[i+1:])
		if equal(ty(strings.Join(less, " ")), want) {
			t.Errorf("%s: the brackets at %d need not be there", strings.Join(tokens, " "), first)
		}
	}
}

// TestShowReads: what is handed over stays as it is.
func TestShowReads(t *testing.T) {
	x := ty("(a -{x, y | r1}-> b) * c list")
	before := cloneType(x)
	rows.Show(x)
	if !equal(x, before) {
		t.Errorf("%s has become %s", bare(before), bare(x))
	}
}
