package rows_test

import (
	"slices"
	"strings"
	"testing"

	"effectus/api"
	"effectus/rows"
)

// improper are types that are not proper, each in one way.
func improper() map[string]api.Type {
	i := api.Type{Kind: api.TyInt}
	one, two, three := []api.Type{i}, []api.Type{i, i}, []api.Type{i, i, i}
	all := map[string]api.Type{
		"a kind below all":      {Kind: -1},
		"a kind above all":      {Kind: api.TyFn + 1},
		"a kind far above all":  {Kind: 1 << 62, Args: two},
		"a variable 0":          {Kind: api.TyVar},
		"a variable below 0":    {Kind: api.TyVar, N: -1},
		"a variable too great":  {Kind: api.TyVar, N: 1000000001},
		"a list of none":        {Kind: api.TyList},
		"a list of two":         {Kind: api.TyList, Args: two},
		"a pair of none":        {Kind: api.TyPair},
		"a pair of one":         {Kind: api.TyPair, Args: one},
		"a pair of three":       {Kind: api.TyPair, Args: three},
		"an arrow of none":      {Kind: api.TyFn},
		"an arrow of one":       {Kind: api.TyFn, Args: one},
		"an arrow of three":     {Kind: api.TyFn, Args: three},
		"an empty name":         fn(i, i, 0, ""),
		"an empty name of two":  fn(i, i, 0, "", "x"),
		"an empty name behind":  fn(i, i, 1, "x", ""),
		"names in no order":     fn(i, i, 0, "y", "x"),
		"names in no order, 3":  fn(i, i, 1, "x", "z", "y"),
		"names not as bytes":    fn(i, i, 0, "a", "B"),
		"names not as bytes, 2": fn(i, i, 0, "x9", "x10"),
		"names not as bytes, 3": fn(i, i, 0, "é", "z"),
		"a row below 0":         fn(i, i, -1, "x"),
		"a row too great":       fn(i, i, 1000000001, "x"),
		"too many parts":        lists(api.MaxType, i),
		"too many operations":   fn(i, i, 0, ops("x", api.MaxType-2)...),
	}
	for kind, name := range []string{"variable", "int", "bool", "unit", "list", "pair", "arrow"} {
		t := api.Type{Kind: kind, Args: slices.Repeat(one, []int{0, 0, 0, 0, 1, 2, 2}[kind])}
		if kind == api.TyVar {
			t.N = 1
		}
		add := func(what string, change func(*api.Type)) {
			other := t
			change(&other)
			all["of kind "+name+": "+what] = other
		}
		if kind != api.TyVar {
			add("a number", func(t *api.Type) { t.N = 1 })
			add("a number below 0", func(t *api.Type) { t.N = -1 })
		}
		if kind != api.TyFn {
			add("an operation", func(t *api.Type) { t.Ops = []string{"x"} })
			add("a row", func(t *api.Type) { t.Row = 1 })
			add("a row below 0", func(t *api.Type) { t.Row = -1 })
		}
		if kind < api.TyList {
			add("an arg", func(t *api.Type) { t.Args = one })
			add("two args", func(t *api.Type) { t.Args = two })
		}
	}
	return all
}

// endless are types that stand within themselves, or many times in one another.
func endless() map[string]api.Type {
	within := func(kind, times int) api.Type {
		args := make([]api.Type, times)
		t := api.Type{Kind: kind, Args: args}
		for i := range args {
			args[i] = t
		}
		return t
	}
	double := api.Type{Kind: api.TyInt}
	for range 100 {
		double = pair(double, double)
	}
	wide := api.Type{Kind: api.TyPair, Args: make([]api.Type, 1000000)}
	return map[string]api.Type{
		"a list within itself":           within(api.TyList, 1),
		"a pair within itself":           within(api.TyPair, 2),
		"an arrow within itself":         within(api.TyFn, 2),
		"a variable within itself":       within(api.TyVar, 1),
		"an int within itself":           within(api.TyInt, 1000),
		"a kind that is none":            within(99, 3),
		"doubled a hundred times":        double,
		"a million args":                 wide,
		"a list a million deep":          lists(1000000, api.Type{Kind: api.TyInt}),
		"a million operations":           fn(v(1), v(1), 0, make([]string, 1000000)...),
		"a million operations of an int": {Kind: api.TyInt, Ops: slices.Repeat([]string{"x"}, 1000000)},
	}
}

// around are types in which another one stands.
func around(t api.Type) []api.Type {
	i := api.Type{Kind: api.TyInt}
	return []api.Type{t, lists(1, t), lists(7, t), pair(t, i), pair(i, t), fn(t, i, 0), fn(i, t, 1, "x"), pair(lists(2, i), fn(i, lists(1, t), 2))}
}

func TestImproper(t *testing.T) {
	good := pairsOf("a = b list")[0]
	unlike := pairsOf("int = bool")[0]
	great := api.Pair{A: v(1), B: lists(api.MaxType-1, v(2))}
	all := improper()
	for name, wrong := range endless() {
		all[name] = wrong
	}
	for name, alone := range all {
		for _, wrong := range around(alone) {
			for _, p := range []api.Pair{{A: wrong, B: v(1)}, {A: v(1), B: wrong}, {A: wrong, B: wrong}} {
				for _, c := range []struct {
					pairs []api.Pair
					at    int
				}{
					{[]api.Pair{p}, 0}, {[]api.Pair{p, good}, 0}, {[]api.Pair{p, p}, 0}, {[]api.Pair{good, p}, 1}, {[]api.Pair{good, good, p, unlike, p}, 2},
					{[]api.Pair{unlike, p}, 1}, {[]api.Pair{great, great, {A: v(2), B: lists(2, v(3))}, p}, 3},
				} {
					got, fault := rows.Solve(c.pairs)
					if fault != (api.Fault{Kind: api.ErrArg, At: c.at}) || len(got) > 0 {
						t.Errorf("%s: fault %v, want ErrArg at %d", name, fault, c.at)
					}
				}
			}
			rows.Show(wrong)
		}
	}
}

// TestProperEdges: what is just not wrong.
func TestProperEdges(t *testing.T) {
	i := api.Type{Kind: api.TyInt}
	for _, right := range []api.Type{
		{Kind: api.TyInt, Ops: []string{}, Args: []api.Type{}},
		{Kind: api.TyVar, N: 1, Ops: []string{}, Args: []api.Type{}},
		{Kind: api.TyVar, N: 1000000000},
		fn(i, i, 1000000000),
		fn(i, i, 0, "x", "x", "x"),
		fn(i, i, 0, "B", "a"),
		fn(i, i, 0, "x10", "x9"),
		fn(i, i, 0, "z", "é"),
		fn(i, i, 0, "\x00", " ", "x", "\xff"),
		fn(i, i, 0, strings.Repeat("x", 100000)),
	} {
		for _, p := range []api.Pair{{A: right, B: right}, {A: right, B: v(1)}, {A: v(1), B: right}} {
			got, fault := rows.Solve([]api.Pair{p})
			want := cloneType(right)
			want.N, want.Row = min(want.N, 1), min(want.Row, 1)
			if fault != (api.Fault{}) || len(got) != 1 || !equal(got[0], want) {
				t.Errorf("%.100s: %v", bare(right), fault)
			}
		}
	}
}

// checkNone takes pairs of which the last one leaves no solution, also with the sides changed, and with others around them.
func checkNone(t *testing.T, texts ...string) {
	t.Helper()
	pairs := pairsOf(texts...)
	last := len(pairs) - 1
	if _, fault := rows.Solve(pairs[:last]); fault != (api.Fault{}) {
		t.Errorf("%v: %v before the last one", texts, fault)
	}
	checkFault(t, pairs, api.ErrType, last)
	for i, p := range pairs {
		pairs[i] = api.Pair{A: p.B, B: p.A}
	}
	checkFault(t, pairs, api.ErrType, last)
	more := pairsOf("y = z list", "int -{| r99}-> int = int -{x}-> int")
	checkFault(t, slices.Concat(more, pairs, more), api.ErrType, last+2)
	for i, p := range pairs {
		pairs[i] = api.Pair{A: lists(1, p.A), B: lists(1, p.B)}
	}
	checkFault(t, append(pairs, pairsOf("int = bool")...), api.ErrType, last)
}

func TestUnlikeKinds(t *testing.T) {
	kinds := []string{"int", "bool", "unit", "a list", "a * b", "a -{| r1}-> b"}
	for i, a := range kinds {
		for _, b := range kinds[:i] {
			checkNone(t, a+"="+b)
			checkNone(t, "c ="+a, "c ="+b)
			checkNone(t, "c ="+a, "d ="+b, "c = d")
			checkNone(t, "c * d = c * c", "c * d = ("+a+") * ("+b+")")
			checkNone(t, "("+a+") -{x}-> unit = ("+b+") -{| r2}-> unit")
			checkNone(t, "unit -{x}-> ("+a+") = unit -{| r2}-> ("+b+")")
		}
	}
}

func TestWithinItself(t *testing.T) {
	for _, texts := range [][]string{
		{"a = a list"}, {"a = a * int"}, {"a = int * a"}, {"a = a -> int"}, {"a = int -> a"}, {"a = (int * (a -> bool)) list"},
		{"a * b = b * a list"}, {"a -> b = b list -> a list"}, {"a * a = (b list) * b"},
		{"a = b list", "b = a list"}, {"a = b", "b = a list"}, {"a = b list", "a = b"}, {"a = b list", "b = c * int", "c = d -> e", "e = a"},
		{"a = b list", "c = d list", "b = c", "a = d"}, {"a * b = c list * d list", "c = b", "d = a"},
		{"a list = b", "b = c list", "c = a list"},
	} {
		checkNone(t, texts...)
	}
	// What is not within itself, though the same variable stands on both sides.
	checkSolved(t, pairsOf("a = a", "a * b = b * a", "a list = b list", "b = c list"), "a list", "a list * a list", "a list list", "a list")
	checkSolved(t, pairsOf("a * b list = b list * a"), "a list * a list")
}

func TestUnlikeRows(t *testing.T) {
	for _, texts := range [][]string{
		// None with a variable.
		{"int -> int = int -{x}-> int"}, {"int -{x}-> int = int -{y}-> int"}, {"int -{x}-> int = int -{x, x}-> int"}, {"int -{x, x, y}-> int = int -{x, y, y}-> int"},
		{"int -{x, y}-> int = int -{x, z}-> int"}, {"int -{x, y}-> int = int -{y}-> int"},
		// The same variable.
		{"int -{| r1}-> int = int -{x | r1}-> int"}, {"int -{x | r1}-> int = int -{y | r1}-> int"}, {"int -{x | r1}-> int = int -{x, x | r1}-> int"},
		{"int -{x, x, y | r1}-> int = int -{x, y, y | r1}-> int"},
		// One with a variable, the other one lacks what it has.
		{"int -> int = int -{x | r1}-> int"}, {"int -{x}-> int = int -{y | r1}-> int"}, {"int -{x}-> int = int -{x, x | r1}-> int"}, {"int -{x, z}-> int = int -{x, y | r1}-> int"},
		// A variable that would have to stand within itself.
		{"int -{| r1}-> int = int -{x | r2}-> int", "int -{| r2}-> int = int -{y | r1}-> int"},
		{"int -{| r1}-> int = int -{x | r2}-> int", "int -{| r1}-> int = int -{| r2}-> int"},
		{"int -{| r1}-> int = int -{| r2}-> int", "int -{| r2}-> int = int -{x | r1}-> int"},
		{"int -{x | r1}-> int = int -{y | r2}-> int", "int -{x | r2}-> int = int -{y | r1}-> int"},
		{"int -{| r1}-> int = int -{x | r2}-> int", "int -{| r2}-> int = int -{x | r3}-> int", "int -{| r3}-> int = int -{| r1}-> int"},
		{"int -{| r1}-> int -{x | r1}-> int = int -{| r2}-> int -{| r2}-> int"},
		{"(int -{| r1}-> int) -{x | r1}-> int = a -{| r2}-> int", "a = int -{| r2}-> int"},
		// What a variable stands for already.
		{"int -{| r1}-> int = int -{x}-> int", "int -{| r1}-> int = int -{y}-> int"}, {"int -{| r1}-> int = int -> int", "int -{x | r1}-> int = int -{x, y | r2}-> int"},
		{"int -{| r1}-> int = int -{x}-> int", "int -{| r1}-> int = int -{x, x | r2}-> int"}, {"a = int -{x}-> int", "a = int -{| r1}-> int", "int -{| r1}-> int = int -{| r2}-> int", "int -{| r2}-> int = int -> int"},
		{"a * a = (int -{x}-> int) * (int -{y}-> int)"}, {"a -> a = (int -{x}-> int) -> (int -{x, x | r1}-> int)"},
	} {
		checkNone(t, texts...)
	}
	// The same one more often, which the other one can take.
	checkSolved(t, pairsOf("int -{x | r1}-> int = int -{y | r2}-> int", "int -{x | r2}-> int = int -{x, x | r3}-> int"), "int -{x, y | r1}-> int", "int -{x, x | r1}-> int")
}

// TestWhichFault: the first pair that is at fault; no solution ahead of too great a one.
func TestWhichFault(t *testing.T) {
	grow := []api.Pair{{A: v(1), B: lists(200, v(2))}, {A: v(2), B: lists(200, v(3))}}
	unlike := pairsOf("int = bool")
	checkFault(t, grow, api.ErrBig, 1)
	checkFault(t, append(slices.Clone(grow), unlike...), api.ErrBig, 1)
	checkFault(t, append(slices.Clone(unlike), grow...), api.ErrType, 0)
	checkFault(t, append(slices.Clone(grow), api.Pair{A: v(0), B: v(1)}), api.ErrArg, 2)
	checkFault(t, append(pairsOf("a27 = a28"), grow...), api.ErrBig, 2)
	// The second pair has no solution, and would be too great if it had one.
	endlessly := pair(lists(100, v(2)), v(3))
	checkFault(t, []api.Pair{grow[0], {A: endlessly, B: pair(v(3), lists(100, v(2)))}, {A: v(2), B: v(3)}}, api.ErrType, 2)
	checkFault(t, []api.Pair{grow[0], {A: pair(v(2), v(3)), B: pair(lists(200, v(3)), lists(1, v(3)))}}, api.ErrType, 1)
	// The first one is only too great by it, the second one stands within itself.
	checkFault(t, []api.Pair{grow[0], {A: pair(v(2), v(4)), B: pair(lists(200, v(3)), lists(1, v(4)))}}, api.ErrType, 1)
	checkFault(t, []api.Pair{grow[0], {A: pair(v(2), lists(1, v(1))), B: pair(lists(200, v(3)), v(4))}}, api.ErrBig, 1)
	checkFault(t, []api.Pair{grow[0], {A: pair(v(2), v(1)), B: pair(lists(200, v(3)), v(3))}}, api.ErrType, 1)
	checkFault(t, []api.Pair{grow[0], {A: pair(v(2), pairsOf("int = a")[0].A), B: pair(lists(200, v(3)), unlike[0].B)}}, api.ErrType, 1)
}
