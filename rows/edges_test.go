package rows_test

import (
	"fmt"
	"slices"
	"strings"
	"testing"

	"effectus/api"
	"effectus/rows"
)

func v(n int) api.Type { return api.Type{Kind: api.TyVar, N: n} }

func pair(a, b api.Type) api.Type { return api.Type{Kind: api.TyPair, Args: []api.Type{a, b}} }

func fn(a, b api.Type, row int, ops ...string) api.Type {
	return api.Type{Kind: api.TyFn, Args: []api.Type{a, b}, Ops: ops, Row: row}
}

// lists is a type within some lists, each a part.
func lists(times int, t api.Type) api.Type {
	for range times {
		t = api.Type{Kind: api.TyList, Args: []api.Type{t}}
	}
	return t
}

// ops are some operations, in the order of their bytes.
func ops(ahead string, times int) []string {
	var all []string
	for i := range times {
		all = append(all, fmt.Sprintf("%s%05d", ahead, i))
	}
	return all
}

// tuple holds types in one type: a part more for each but the last.
func tuple(types []api.Type) api.Type {
	last := len(types) - 1
	t := types[last]
	for i := last - 1; i >= 0; i-- {
		t = pair(types[i], t)
	}
	return t
}

// held makes all pairs one.
func held(pairs []api.Pair) []api.Pair {
	var a, b []api.Type
	for _, p := range pairs {
		a, b = append(a, p.A), append(b, p.B)
	}
	return []api.Pair{{A: tuple(a), B: tuple(b)}}
}

func TestMostPairs(t *testing.T) {
	one := pairsOf("a = int")
	most := slices.Repeat(one, api.MaxPairs)
	checkSolved(t, most, slices.Repeat([]string{"int"}, api.MaxPairs)...)
	checkFault(t, append(slices.Clone(most[1:]), pairsOf("a = bool")...), api.ErrType, api.MaxPairs-1)
	wrong := api.Pair{A: v(0), B: v(1)}
	checkFault(t, append(slices.Clone(most[1:]), wrong), api.ErrArg, api.MaxPairs-1)
	checkFault(t, append(slices.Clone(most), one...), api.ErrArg, api.MaxPairs)
	checkFault(t, append(slices.Clone(most), wrong), api.ErrArg, api.MaxPairs)
	checkFault(t, append([]api.Pair{wrong}, most...), api.ErrArg, api.MaxPairs)
	checkFault(t, append(pairsOf("int = bool"), most...), api.ErrArg, api.MaxPairs)
	checkFault(t, make([]api.Pair, 100000), api.ErrArg, api.MaxPairs)
}

// greatTypes are types of as many parts, made of all kinds of them.
func greatTypes(parts int) []api.Type {
	i := api.Type{Kind: api.TyInt}
	return []api.Type{
		lists(parts-1, i),
		lists(parts-1, v(7)),
		fn(i, i, 0, ops("x", parts-3)...),
		fn(i, i, 5, slices.Repeat([]string{"x"}, parts-3)...),
		fn(lists(parts-13, i), i, 5, ops("x", 10)...),
		fn(i, fn(i, lists(parts-7, i), 1, "x"), 1, "y"),
		pair(lists(parts/2, i), lists(parts-parts/2-3, i)),
		pair(fn(i, i, 0, ops("x", parts-5)...), i),
		tuple(append(slices.Repeat([]api.Type{i}, (parts-1)/2), lists(1-parts%2, i))),
	}
}

func TestGreatTypes(t *testing.T) {
	small := pairsOf("b = b")[0]
	for _, great := range greatTypes(api.MaxType) {
		if partsOf(great) != api.MaxType {
			t.Fatalf("%d parts: %.80s", partsOf(great), bare(great))
		}
		for _, p := range []api.Pair{{A: great, B: great}, {A: great, B: v(1)}, {A: v(1), B: great}} {
			got, fault := rows.Solve([]api.Pair{small, p, small})
			if fault != (api.Fault{}) || len(got) != 3 || partsOf(got[1]) != api.MaxType {
				t.Errorf("%.80s: %v", bare(great), fault)
			}
		}
		if rows.Show(great) == "" {
			t.Errorf("%.80s is not shown", bare(great))
		}
	}
	for _, great := range greatTypes(api.MaxType + 1) {
		if partsOf(great) != api.MaxType+1 {
			t.Fatalf("%d parts: %.80s", partsOf(great), bare(great))
		}
		checkFault(t, []api.Pair{small, {A: great, B: v(1)}}, api.ErrArg, 1)
		checkFault(t, []api.Pair{small, small, {A: v(1), B: great}}, api.ErrArg, 2)
		rows.Show(great)
	}
}

// grown are pairs of which the first one becomes a type of as many parts by the last one.
func grown(parts int) [][]api.Pair {
	i := api.Type{Kind: api.TyInt}
	half, odd := parts/2, parts%2
	return [][]api.Pair{
		{{A: lists(half, v(1)), B: v(2)}, {A: v(1), B: lists(parts-half-1, i)}},
		{{A: lists(half, v(1)), B: v(2)}, {A: v(3), B: lists(parts-half-1, v(4))}, {A: v(1), B: v(3)}},
		{{A: fn(i, i, 1, ops("x", half)...), B: v(2)}, {A: fn(i, i, 1), B: fn(i, i, 0, ops("y", parts-half-3)...)}},
		{{A: fn(i, i, 1, ops("x", half)...), B: v(2)}, {A: fn(i, i, 1), B: fn(i, i, 2, ops("x", parts-half-3)...)}},
		{{A: fn(i, v(1), 1, ops("x", half)...), B: v(2)}, {A: v(1), B: v(3)}, {A: fn(v(3), i, 1), B: fn(lists(parts-half-13, i), i, 2, ops("y", 10)...)}},
		{{A: tuple([]api.Type{v(1), v(1), lists(1-odd, i)}), B: v(2)}, {A: v(1), B: lists(half-3+odd, i)}},
	}
}

// TestGrownTypes: what a pair has become is measured, too, when it is a later pair that does it.
func TestGrownTypes(t *testing.T) {
	for i, pairs := range grown(api.MaxType) {
		got, fault := rows.Solve(pairs)
		if fault != (api.Fault{}) || partsOf(got[0]) != api.MaxType {
			t.Errorf("%d: %v", i, fault)
		}
	}
	for i, pairs := range grown(api.MaxType + 1) {
		if got, fault := rows.Solve(pairs); fault != (api.Fault{Kind: api.ErrBig, At: len(pairs) - 1}) || len(got) > 0 {
			t.Errorf("%d: %v", i, fault)
		}
		checkFault(t, append(slices.Clone(pairs), pairsOf("int = bool")...), api.ErrBig, len(pairs)-1)
		checkFault(t, append(pairsOf("int = bool"), pairs...), api.ErrType, 0)
	}
}

// TestGrownRow: both sides are as great as they may be, and what they become is greater.
func TestGrownRow(t *testing.T) {
	i := api.Type{Kind: api.TyInt}
	a, b := fn(i, i, 1, ops("x", api.MaxType-3)...), fn(i, i, 2, ops("x", api.MaxType-3)...)
	got, fault := rows.Solve([]api.Pair{{A: a, B: b}})
	if fault != (api.Fault{}) || !equal(got[0], a) {
		t.Errorf("two rows with the same operations: %v", fault)
	}
	b.Ops = append([]string{"w"}, b.Ops[1:]...)
	checkFault(t, []api.Pair{{A: a, B: b}}, api.ErrBig, 0)
	b.Row = 1
	checkFault(t, []api.Pair{{A: a, B: b}}, api.ErrType, 0)
	b.Row = 0
	checkFault(t, []api.Pair{{A: a, B: b}}, api.ErrType, 0)
}

func TestVariablesAtTheirEdges(t *testing.T) {
	const most = 1000000000
	i := api.Type{Kind: api.TyInt}
	for _, n := range []int{1, 26, 27, most} {
		checkSolved(t, []api.Pair{{A: v(n), B: v(n)}}, "a")
		checkSolved(t, []api.Pair{{A: v(n), B: i}, {A: i, B: v(n)}}, "int", "int")
		checkSolved(t, []api.Pair{{A: fn(i, v(n), n), B: fn(i, v(2), 2, "x")}, {A: v(2), B: v(n)}}, "int -{x | r1}-> a", "a")
		checkFault(t, []api.Pair{{A: v(n), B: lists(1, v(n))}}, api.ErrType, 0)
	}
	checkSolved(t, []api.Pair{{A: pair(v(most), v(1)), B: pair(v(1), i)}}, "int * int")
	checkSolved(t, []api.Pair{{A: fn(v(most), v(1), most, "y"), B: fn(v(1), i, 1, "x")}}, "int -{x, y | r1}-> int")
	for _, wrong := range []api.Type{v(0), v(-1), v(most + 1), v(1 << 62), v(-1 << 63), fn(i, i, -1), fn(i, i, most+1), fn(i, i, 1<<62), fn(i, i, -1<<63)} {
		checkFault(t, []api.Pair{{A: v(1), B: i}, {A: wrong, B: i}}, api.ErrArg, 1)
		checkFault(t, []api.Pair{{A: i, B: wrong}}, api.ErrArg, 0)
		rows.Show(wrong)
	}
}

// TestManyVariables: the 27th variable of an answer.
func TestManyVariables(t *testing.T) {
	var vars []api.Type
	for n := range 30 {
		vars = append(vars, fn(v(1000-n), v(2000-n), 3000-n))
	}
	got, fault := rows.Solve([]api.Pair{{A: tuple(vars), B: v(1)}})
	if fault != (api.Fault{}) {
		t.Fatal(fault)
	}
	text := rows.Show(got[0])
	if !strings.HasPrefix(text, "(a -{| r1}-> b) * (c -{| r2}-> d) * ") || !strings.Contains(text, " * (y -{| r13}-> z) * (a27 -{| r14}-> a28) * ") || !strings.HasSuffix(text, " * (a59 -{| r30}-> a60)") {
		t.Error(text)
	}
}

// doubling are pairs by which each variable from first on is a pair of the next one, as often as said.
func doubling(first, times int) []api.Pair {
	var pairs []api.Pair
	for n := first; n < first+times; n++ {
		pairs = append(pairs, api.Pair{A: v(n), B: pair(v(n+1), v(n+1))})
	}
	return pairs
}

// TestDoubling: after k pairs the first one has 2^(k+1)-1 parts.
func TestDoubling(t *testing.T) {
	got, fault := rows.Solve(doubling(1, 7))
	if fault != (api.Fault{}) || partsOf(got[0]) != 255 || partsOf(got[6]) != 3 {
		t.Errorf("seven times: %v", fault)
	}
	checkFault(t, doubling(1, 8), api.ErrBig, 7)
	checkFault(t, doubling(1, api.MaxPairs), api.ErrBig, 7)
	back := slices.Clone(doubling(1, api.MaxPairs))
	slices.Reverse(back)
	checkFault(t, back, api.ErrBig, 7)
	checkFault(t, append(doubling(1, 7), api.Pair{A: v(8), B: pair(v(1), v(1))}), api.ErrType, 7)
	checkFault(t, append(doubling(1, 8), api.Pair{A: v(8), B: v(1)}), api.ErrBig, 7)
}

// TestDoublingWithin: types of far more parts than anybody can count are still the same, or not.
func TestDoublingWithin(t *testing.T) {
	const times = 33
	i, b := api.Type{Kind: api.TyInt}, api.Type{Kind: api.TyBool}
	two := append(doubling(1, times), doubling(1001, times)...)
	first, last, otherFirst, otherLast := v(1), v(1+times), v(1001), v(1001+times)
	for _, c := range []struct {
		more []api.Pair
		kind api.Errno
	}{
		{nil, api.ErrBig},
		{[]api.Pair{{A: first, B: otherFirst}}, api.ErrBig},
		{[]api.Pair{{A: first, B: otherFirst}, {A: last, B: otherLast}}, api.ErrBig},
		{[]api.Pair{{A: first, B: otherFirst}, {A: last, B: i}, {A: otherLast, B: i}}, api.ErrBig},
		{[]api.Pair{{A: first, B: otherFirst}, {A: last, B: i}, {A: otherLast, B: b}}, api.ErrType},
		{[]api.Pair{{A: last, B: i}, {A: otherLast, B: b}, {A: first, B: otherFirst}}, api.ErrType},
		{[]api.Pair{{A: last, B: fn(i, i, 0, "x")}, {A: otherLast, B: fn(i, i, 0, "y")}, {A: first, B: otherFirst}}, api.ErrType},
		{[]api.Pair{{A: last, B: fn(i, i, 1, "x")}, {A: otherLast, B: fn(i, i, 1, "y")}, {A: first, B: otherFirst}}, api.ErrType},
		{[]api.Pair{{A: last, B: fn(i, i, 1, "x")}, {A: otherLast, B: fn(i, i, 2, "y")}, {A: first, B: otherFirst}}, api.ErrBig},
		{[]api.Pair{{A: first, B: last}}, api.ErrType},
		{[]api.Pair{{A: first, B: otherFirst}, {A: last, B: lists(1, otherLast)}}, api.ErrType},
		{[]api.Pair{{A: first, B: otherLast}}, api.ErrBig},
		{[]api.Pair{{A: first, B: otherLast}, {A: last, B: otherFirst}}, api.ErrType},
	} {
		checkFault(t, held(append(slices.Clone(two), c.more...)), c.kind, 0)
		checkFault(t, held(append(slices.Clone(c.more), two...)), c.kind, 0)
	}
}

// TestDoublingPastNumbers: more parts than an int can count.
func TestDoublingPastNumbers(t *testing.T) {
	for times := 60; times <= 70; times++ {
		checkFault(t, held(doubling(1, times)), api.ErrBig, 0)
	}
}

// TestGreatWork: as many pairs as there may be, of types as great as they may be, in which all rows and variables meet.
func TestGreatWork(t *testing.T) {
	const each = 42
	i := api.Type{Kind: api.TyInt}
	var pairs []api.Pair
	for p := range api.MaxPairs {
		var a, b []api.Type
		for k := range each {
			n := p*each + k + 1
			a = append(a, fn(v(n), i, n, "x", "y"))
			b = append(b, fn(v(n+1), v(n+2), n+1, "x", "y"))
		}
		pairs = append(pairs, api.Pair{A: tuple(a), B: tuple(b)})
	}
	got, fault := rows.Solve(pairs)
	if fault != (api.Fault{}) || len(got) != api.MaxPairs {
		t.Fatal(fault)
	}
	last := got[api.MaxPairs-1].Args[0]
	if text := rows.Show(last); text != "int -{x, y | r1}-> int" {
		t.Error(text)
	}
	slices.Reverse(pairs)
	if _, fault = rows.Solve(pairs); fault != (api.Fault{}) {
		t.Error(fault)
	}
	checkFault(t, append(pairs[:api.MaxPairs-1:api.MaxPairs-1], api.Pair{A: fn(i, i, each*2), B: fn(i, i, each*3, "z")}), api.ErrType, api.MaxPairs-1)
}
