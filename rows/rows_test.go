package rows_test

import (
	"slices"
	"testing"

	"effectus/api"
	"effectus/rows"
)

// checkPair takes a pair and what it becomes, and the same with the sides changed.
func checkPair(t *testing.T, pair, want string) {
	t.Helper()
	pairs := pairsOf(pair)
	checkSolved(t, pairs, want)
	checkSolved(t, []api.Pair{{A: pairs[0].B, B: pairs[0].A}}, want)
}

func TestChapterExamples(t *testing.T) {
	checkPair(t, "a -{x | r1}-> b = int -{y | r2}-> int", "int -{x, y | r1}-> int")
	checkFault(t, pairsOf("a -{x | r1}-> b = a -{y | r1}-> b"), api.ErrType, 0)
	checkFault(t, pairsOf("a = a list"), api.ErrType, 0)
}

func TestSolveEachKind(t *testing.T) {
	for pair, want := range map[string]string{
		"int = int":                           "int",
		"bool = bool":                         "bool",
		"unit = unit":                         "unit",
		"a = a":                               "a",
		"c = b":                               "a",
		"c = int":                             "int",
		"c = int list":                        "int list",
		"a list = unit list":                  "unit list",
		"a list list = b list":                "a list list",
		"a * bool = int * b":                  "int * bool",
		"a * b = b * a":                       "a * a",
		"a * a = b * int list":                "int list * int list",
		"(a * b) * c = c * (int * bool)":      "(int * bool) * int * bool",
		"a -> b = int -> bool":                "int -> bool",
		"a -> b = b -> c":                     "a -> a",
		"a -> a list = b -> (c * int) list":   "a * int -> (a * int) list",
		"(a -> b) -> c = d -> d":              "(a -> b) -> a -> b",
		"a -> b -> c = (d -> d) -> d -> unit": "(a -> a) -> a -> unit",
		"a list -> b * c = d -> d * d":        "a list -> a list * a list",
		"b = int -{x, x | r7}-> a27":          "int -{x, x | r1}-> a",
	} {
		checkPair(t, pair, want)
	}
}

func TestSolveRows(t *testing.T) {
	for pair, want := range map[string]string{
		"int -> int = int -> int":                                  "int -> int",
		"int -{x}-> int = int -{x}-> int":                          "int -{x}-> int",
		"int -{x, y}-> int = int -{x, y}-> int":                    "int -{x, y}-> int",
		"int -{| r9}-> int = int -{| r9}-> int":                    "int -{| r1}-> int",
		"int -{x | r9}-> int = int -{x | r9}-> int":                "int -{x | r1}-> int",
		"int -{| r2}-> int = int -{| r1}-> int":                    "int -{| r1}-> int",
		"int -{| r2}-> int = int -> int":                           "int -> int",
		"int -{| r2}-> int = int -{x, y}-> int":                    "int -{x, y}-> int",
		"int -{x | r2}-> int = int -{x}-> int":                     "int -{x}-> int",
		"int -{y | r2}-> int = int -{x, y, z}-> int":               "int -{x, y, z}-> int",
		"int -{b | r1}-> int = int -{a, c | r2}-> int":             "int -{a, b, c | r1}-> int",
		"int -{a, c | r1}-> int = int -{b, c | r2}-> int":          "int -{a, b, c | r1}-> int",
		"int -{| r1}-> int = int -{a, b | r2}-> int":               "int -{a, b | r1}-> int",
		"int -{a, b | r1}-> int = int -{a, b | r2}-> int":          "int -{a, b | r1}-> int",
		"int -{B, a | r1}-> int = int -{A, Z, _, z | r2}-> int":    "int -{A, B, Z, _, a, z | r1}-> int",
		"int -{a10, a2 | r1}-> int = int -{a, a1 | r2}-> int":      "int -{a, a1, a10, a2 | r1}-> int",
		"int -{x, x}-> int = int -{x, x}-> int":                    "int -{x, x}-> int",
		"int -{x, x}-> int = int -{x | r1}-> int":                  "int -{x, x}-> int",
		"int -{x, x | r1}-> int = int -{x | r2}-> int":             "int -{x, x | r1}-> int",
		"int -{x, x, y | r1}-> int = int -{x, y, y, y | r2}-> int": "int -{x, x, y, y, y | r1}-> int",
		"int -{x, x | r1}-> int = int -{y, y | r2}-> int":          "int -{x, x, y, y | r1}-> int",
		// One variable in more than one row.
		"int -{| r1}-> int -{| r1}-> int = a -{x}-> b -{| r2}-> c":                   "int -{x}-> int -{x}-> int",
		"int -{| r1}-> int -{y | r1}-> int = int -{x | r2}-> int -{x, y | r3}-> int": "int -{x | r1}-> int -{x, y | r1}-> int",
		"int -{| r1}-> int -{| r1}-> int = int -{x | r2}-> int -{y | r3}-> int":      "int -{x, y | r1}-> int -{x, y | r1}-> int",
		"int -{x | r1}-> int -{| r2}-> int = int -{| r2}-> int -{x, y | r3}-> int":   "int -{x, y | r1}-> int -{x, y | r1}-> int",
		"(int -{| r1}-> a) -{| r1}-> a = (int -{x}-> bool) -{| r2}-> b":              "(int -{x}-> bool) -{x}-> bool",
		"(int -{| r1}-> a) * (int -{x | r1}-> a) = b * (int -{x, x, y}-> int)":       "(int -{x, y}-> int) * (int -{x, x, y}-> int)",
		// A row within what a type variable becomes.
		"a * a = (int -{x | r1}-> int) * (int -{y | r2}-> int)": "(int -{x, y | r1}-> int) * (int -{x, y | r1}-> int)",
		"a list * a = b * (int -{| r5}-> c)":                    "(int -{| r1}-> a) list * (int -{| r1}-> a)",
	} {
		checkPair(t, pair, want)
	}
}

// TestSolveSeveral: pairs that share variables; what is known by a later pair stands in the answer of an earlier one.
func TestSolveSeveral(t *testing.T) {
	for _, c := range []struct{ pairs, want []string }{
		{[]string{"a = b", "b = c", "c = int"}, []string{"int", "int", "int"}},
		{[]string{"a = b list", "b = c * d", "d = unit", "c = e list"}, []string{"(a list * unit) list", "a list * unit", "unit", "a list"}},
		{[]string{"a = a27", "b = a28"}, []string{"a", "b"}},
		{[]string{"b = b", "a = a", "b = b"}, []string{"a", "b", "a"}},
		{[]string{"a -{| r1}-> b = c", "c = int -{x | r2}-> d", "d -{| r2}-> d = bool -{y}-> bool"},
			[]string{"int -{x, y}-> bool", "int -{x, y}-> bool", "bool -{y}-> bool"}},
		{[]string{"int -{| r1}-> int = int -{x | r2}-> int", "int -{| r2}-> int = int -{y | r3}-> int", "int -{| r3}-> int = int -{x | r4}-> int"},
			[]string{"int -{x, x, y | r1}-> int", "int -{x, y | r1}-> int", "int -{x | r1}-> int"}},
		{[]string{"int -{x | r1}-> int = int -{y | r2}-> int", "int -{z | r1}-> int = int -{z | r3}-> int", "int -{| r2}-> int = int -{x}-> int"},
			[]string{"int -{x, y}-> int", "int -{y, z}-> int", "int -{x}-> int"}},
		{[]string{"int -{| r1}-> int = int -{| r2}-> int", "int -{| r2}-> int = int -{| r3}-> int", "int -{| r3}-> int = int -{| r1}-> int", "int -{| r4}-> int = int -{x | r1}-> int"},
			[]string{"int -{| r1}-> int", "int -{| r1}-> int", "int -{| r1}-> int", "int -{x | r1}-> int"}},
	} {
		checkSolved(t, pairsOf(c.pairs...), c.want...)
	}
}

// TestNumbersAnew: itself, its first Arg, its row variable, its second Arg; through all of the answer.
func TestNumbersAnew(t *testing.T) {
	for _, c := range []struct{ pairs, want []string }{
		{[]string{"z = z"}, []string{"a"}},
		{[]string{"c * b = c * b", "b * a = b * a"}, []string{"a * b", "b * c"}},
		{[]string{"a1000000000 -{| r1000000000}-> a27 = a1000000000 -{| r1000000000}-> a27"}, []string{"a -{| r1}-> b"}},
		{[]string{"int -{| r4}-> int -{| r3}-> int = a"}, []string{"int -{| r1}-> int -{| r2}-> int"}},
		{[]string{"(int -{| r4}-> int) -{| r3}-> int = a"}, []string{"(int -{| r1}-> int) -{| r2}-> int"}},
		{[]string{"(c -{| r3}-> b) -{| r2}-> (a -{| r1}-> d) = e"}, []string{"(a -{| r1}-> b) -{| r2}-> c -{| r3}-> d"}},
		{[]string{"(d -{| r3}-> c) list * (b -{| r2}-> a) = e"}, []string{"(a -{| r1}-> b) list * (c -{| r2}-> d)"}},
		{[]string{"int -{| r8}-> int = int -{| r9}-> int", "b = b", "int -{x | r7}-> int = int -{x | r7}-> int", "b * a = b * a", "a -{| r9}-> a = a -{| r9}-> a"},
			[]string{"int -{| r1}-> int", "a", "int -{x | r2}-> int", "a * b", "b -{| r1}-> b"}},
		{[]string{"a * b = a * b", "a = int"}, []string{"int * a", "int"}},
		{[]string{"int -{| r1}-> int -{| r2}-> int = a", "int -{| r1}-> int = int -{x}-> int"}, []string{"int -{x}-> int -{| r1}-> int", "int -{x}-> int"}},
	} {
		checkSolved(t, pairsOf(c.pairs...), c.want...)
	}
}

// TestUnlikeNamespaces: a type variable and a row variable of one number have nothing to do with each other.
func TestUnlikeNamespaces(t *testing.T) {
	checkSolved(t, pairsOf("a -{| r1}-> b = int -{x}-> bool", "b -{| r2}-> a = b -{| r2}-> a"), "int -{x}-> bool", "bool -{| r1}-> int")
}

func TestNoPairs(t *testing.T) {
	checkSolved(t, nil)
	checkSolved(t, []api.Pair{})
}

// eachElement goes through all that the lists of a type have room for.
func eachElement(t *api.Type, op func(*string), arg func(*api.Type)) {
	ops, args := t.Ops[:cap(t.Ops)], t.Args[:cap(t.Args)]
	for i := range ops {
		op(&ops[i])
	}
	for i := range args {
		arg(&args[i])
		eachElement(&args[i], op, arg)
	}
}

// TestNewMemory: an answer's lists share nothing with the arguments, and nothing among one another.
func TestNewMemory(t *testing.T) {
	for _, texts := range [][]string{
		{"int -{x, y | r1}-> int = int -{x, y | r1}-> int", "int -{x, y | r1}-> int = a", "a = a", "a list * a = b", "b = b"},
		{"a * a = (int -{x | r1}-> c list) * d", "int -{| r1}-> int = int -{y, z}-> int", "d -{x}-> d = e"},
		{"a -{| r1}-> a = (int -{}-> int) -{| r1}-> b", "int -{| r1}-> int = int -{| r2}-> int", "int -{| r2}-> int = int -{v, w}-> int", "int -{| r1}-> int = c", "c -{| r2}-> c = d"},
	} {
		pairs := pairsOf(texts...)
		for i := range pairs {
			pairs[i].A.Ops = append(make([]string, 0, 8), pairs[i].A.Ops...)
		}
		before := clonePairs(pairs)
		got, fault := rows.Solve(pairs)
		if fault.Kind != api.OK {
			t.Fatalf("%v: %v", texts, fault)
		}
		ops, types := map[*string]bool{}, map[*api.Type]bool{}
		op := func(s *string) {
			if ops[s] {
				t.Errorf("%v: operations share memory", texts)
			}
			ops[s] = true
		}
		arg := func(a *api.Type) {
			if types[a] {
				t.Errorf("%v: args share memory", texts)
			}
			types[a] = true
		}
		for i := range pairs {
			eachElement(&pairs[i].A, op, arg)
			eachElement(&pairs[i].B, op, arg)
		}
		for i := range got {
			arg(&got[i])
			eachElement(&got[i], op, arg)
		}
		if !slices.EqualFunc(pairs, before, func(a, b api.Pair) bool { return equal(a.A, b.A) && equal(a.B, b.B) }) {
			t.Errorf("%v: the pairs are others now", texts)
		}
	}
}

// TestSameAnswer: nothing is kept from call to call.
func TestSameAnswer(t *testing.T) {
	for range 3 {
		checkSolved(t, pairsOf("a -{x | r1}-> b = c", "b = int -{| r1}-> d"), "a -{x | r1}-> int -{| r1}-> b", "int -{| r1}-> b")
		checkFault(t, pairsOf("a = int", "int -{| r1}-> int = int -{x}-> int", "a = bool"), api.ErrType, 2)
	}
}
