package emit_test

import (
	"fmt"
	"math/rand"
	"testing"
)

func TestShapes(t *testing.T) {
	const defs = "op many get : unit => int def rec loop x = loop x def same x = x def on f x = f x "
	for main, want := range map[string]string{
		"1": "i", "true": "b", "1 < 2": "b", "()": "u", "[]": "lv", "[1]": "li", "[[]]": "llv", "[[[true]]]": "lllb", "(1, true)": "pib", "(1, (true, ()))": "pipbu", "((1, true), ())": "ppibu", "[(1, [true])]": "lpilb", "([1], [()])": "plilu",
		"same": "f", "on": "f", "on same": "f", "fn x => x": "f", "fn x => [x]": "f", "[fn x => x]": "lf", "(fn x => x, 1)": "pfi", "(1, fn x => (x, [1]))": "pif", "[(same, on)]": "lpff", "fn x => (x, 1)": "f", "fn f => f (1, 2) + 1": "f", "(fn f => f (1, 2) + 1, fn x => [x])": "pff",
		"loop 1": "v", "(loop 1, 2)": "pvi", "[loop 1]": "lv", "(loop 1, loop 2)": "pvv", "fn x => do get ()": "f", "[[fn x => do get () + 1]]": "llf", "(fn x => do get (), (fn x => [do get ()], 1))": "pfpfi", "let x = 1 in x": "i", "if true then [] else [1]": "li",
		"handle do get () with { return x => [x] | get u k => k 1 }": "li", "handle do get () with { return x => fn y => x | get u k => k 1 }": "f", "[same, fn x => 1]": "lf", "(((1, 2), 3), [[(4, [])]])": "pppiiillpilv",
	} {
		if c := emitted(t, defs+"main = "+main); c.Shape != want {
			t.Errorf("%s: %s, want %s", main, c.Shape, want)
		}
	}
}

// madeType writes a type, with at most so many parts, and its shape; level is the least that stands without brackets.
func madeType(r *rand.Rand, parts, level int) (written, shape string) {
	bracketed := func(own int, written string) string {
		if own < level {
			return "(" + written + ")"
		}
		return written
	}
	switch n := r.Intn(5); {
	case n == 0 && parts > 2:
		first, _ := madeType(r, parts/2, 1)
		second, _ := madeType(r, parts/2, 0)
		return bracketed(0, first+[]string{" -> ", " -{o}-> ", " -{p, o}-> "}[r.Intn(3)]+second), "f"
	case n < 3 && parts > 2:
		first, one := madeType(r, parts/2, 2)
		second, two := madeType(r, parts/2, 1)
		return bracketed(1, first+" * "+second), "p" + one + two
	case parts > 1:
		element, one := madeType(r, parts-1, 2)
		return bracketed(2, element+" list"), "l" + one
	}
	n := r.Intn(3)
	return []string{"int", "bool", "unit"}[n], "ibu"[n : n+1]
}

// TestMadeShapes: the shape is that of main's type, whatever this is.
func TestMadeShapes(t *testing.T) {
	r := rand.New(rand.NewSource(1))
	for range 3000 {
		written, shape := madeType(r, 1+r.Intn(40), 0)
		text := fmt.Sprintf("op once o : unit => %s op many p : int => int def rec loop x = loop x main = handle do o () with { return x => x | o u k => loop u }", written)
		if c := emitted(t, text); c.Shape != shape {
			t.Errorf("%s: %s, want %s", written, c.Shape, shape)
		}
	}
}
