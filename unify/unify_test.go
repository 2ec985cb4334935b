package unify_test

import (
	"testing"

	"effectus/api"
	"effectus/rows"
	"effectus/unify"
)

func number() *unify.Node { return unify.Of(api.TyInt) }

func shown(nodes ...*unify.Node) []string {
	var all []string
	w := unify.NewWriter()
	for _, n := range nodes {
		all = append(all, rows.Show(w.Write(n)))
	}
	return all
}

func check(t *testing.T, n *unify.Node, want string) {
	t.Helper()
	if got := shown(n)[0]; got != want {
		t.Errorf("got %s, want %s", got, want)
	}
}

func TestSame(t *testing.T) {
	a, b := unify.New(), unify.New()
	f := unify.Fn(a, unify.NewRow("x"), unify.Of(api.TyList, b))
	g := unify.Fn(unify.Of(api.TyBool), unify.NewRow("y", "x"), a)
	check(t, f, "a -{x | r1}-> b list")
	check(t, g, "bool -{x, y | r1}-> a")
	if unify.Same(f, g) {
		t.Error("bool and a list are the same")
	}
	a, b = unify.New(), unify.New()
	f = unify.Fn(a, unify.NewRow("x"), unify.Of(api.TyPair, a, b))
	g = unify.Fn(number(), unify.OnlyRow("y", "x", "x"), unify.New())
	if !unify.Same(f, g) {
		t.Error("they are not the same")
	}
	check(t, f, "int -{x, x, y}-> int * a")
	check(t, g, "int -{x, x, y}-> int * a")
	if a.Now().Kind != api.TyInt || b.Now() != b || f.Now() != g.Now() {
		t.Error("what they are now")
	}
	if unify.Same(a, unify.Of(api.TyUnit)) || !unify.Same(b, b) || !unify.Same(a, number()) {
		t.Error("int is unit, or not itself")
	}
}

func TestRows(t *testing.T) {
	row := func(r unify.Row) *unify.Node { return unify.Fn(number(), r, number()) }
	open := unify.NewRow("b")
	check(t, row(open.With("c", "a", "b")), "int -{a, b, b, c | r1}-> int")
	check(t, row(open), "int -{b | r1}-> int")
	check(t, row(unify.OnlyRow()), "int -> int")
	check(t, row(unify.OnlyRow().Opened()), "int -{| r1}-> int")
	check(t, unify.Of(api.TyPair, row(open), row(open.Opened())), "(int -{b | r1}-> int) * (int -{b | r1}-> int)")
	if !unify.SameRow(open, unify.OnlyRow("a", "b", "b")) {
		t.Error("it does not take what it lacks")
	}
	check(t, row(open), "int -{a, b, b}-> int")
	check(t, row(open.With("a")), "int -{a, a, b, b}-> int")
	check(t, unify.Of(api.TyPair, row(open), row(open.Opened())), "(int -{a, b, b}-> int) * (int -{a, b, b | r1}-> int)")
	for _, other := range []unify.Row{unify.OnlyRow(), unify.OnlyRow("a", "b"), unify.OnlyRow("a", "b", "b", "b"), unify.OnlyRow("a", "a", "b", "b"), unify.NewRow("c"), unify.NewRow("b", "b", "b")} {
		if unify.SameRow(open, other) {
			t.Errorf("the same as %v", other)
		}
	}
	one, two, three := unify.NewRow("a"), unify.NewRow("b"), unify.NewRow("c")
	if !unify.SameRow(one, two) || !unify.SameRow(two, three) || !unify.SameRow(one, three) || unify.SameRow(one, two.With("a")) {
		t.Error("three rows")
	}
	check(t, unify.Of(api.TyPair, row(one), row(three)), "(int -{a, b, c | r1}-> int) * (int -{a, b, c | r1}-> int)")
}

func TestMeasure(t *testing.T) {
	a, rest := unify.New(), unify.NewRow("x", "x")
	f := unify.Fn(a, rest, unify.Of(api.TyPair, a, number()))
	if parts := f.Measure(1); parts != 7 {
		t.Errorf("%d parts", parts)
	}
	unify.SameRow(rest, unify.OnlyRow("x", "x", "y"))
	unify.Same(a, unify.Of(api.TyList, number()))
	if parts := f.Measure(2); parts != 10 {
		t.Errorf("%d parts", parts)
	}
	b := number()
	for range 200 {
		b = unify.Of(api.TyPair, b, b)
	}
	if parts := b.Measure(3); parts != api.MaxType+1 {
		t.Errorf("%d parts", parts)
	}
	c := unify.New()
	list := unify.Of(api.TyList, unify.Of(api.TyPair, number(), c))
	if !unify.Same(c, list) || list.Measure(4) != 0 || unify.Of(api.TyPair, number(), list).Measure(4) != 0 || list.Measure(5) != 0 {
		t.Error("it does not stand within itself")
	}
}

func TestMarks(t *testing.T) {
	a, b, c := unify.New(), unify.New(), unify.New()
	f := unify.Fn(a, unify.NewRow(), unify.Of(api.TyList, b))
	g := unify.Fn(a, unify.NewRow(), c)
	w := unify.NewWriter()
	w.Write(f)
	w.Write(g)
	all := w.Vars()
	check := func(round int, types [3]bool, rows [2]bool) {
		t.Helper()
		for i, want := range types {
			if all.Types[i+1].Marked(round) != want {
				t.Errorf("round %d, type %d", round, i+1)
			}
		}
		for i, want := range rows {
			if all.Rows[i+1].Marked(round) != want {
				t.Errorf("round %d, row %d", round, i+1)
			}
		}
	}
	check(1, [3]bool{}, [2]bool{})
	f.Mark(1)
	check(1, [3]bool{true, true, false}, [2]bool{true, false})
	g.Mark(2)
	check(2, [3]bool{true, false, true}, [2]bool{false, true})
	check(1, [3]bool{false, true, false}, [2]bool{true, false})
	unify.Same(c, unify.Of(api.TyList, b))
	c.Mark(3)
	check(3, [3]bool{false, true, true}, [2]bool{})
	rest := all.Rows[1]
	rest.Mark(4)
	check(4, [3]bool{}, [2]bool{true, false})
	unify.Same(f, g)
	behind := unify.NewWriter()
	behind.Write(f)
	rest.Mark(5)
	if !behind.Vars().Rows[1].Marked(5) {
		t.Error("what a row variable has become is not marked")
	}
	number().Mark(6)
	unify.Fn(number(), unify.OnlyRow("x"), number()).Mark(6)
}

// TestVars: what was met under a number is met again, by a clone too, but not what another clone has met.
func TestVars(t *testing.T) {
	v := func(n int) api.Type { return api.Type{Kind: api.TyVar, N: n} }
	f := api.Type{Kind: api.TyFn, Args: []api.Type{v(7), v(3)}, Ops: []string{"x", "x"}, Row: 9}
	all := unify.NewVars()
	one := all.Node(f)
	two, three := all.Clone(), all.Clone()
	a, b := two.Node(api.Type{Kind: api.TyPair, Args: []api.Type{v(7), v(8)}}), three.Node(api.Type{Kind: api.TyPair, Args: []api.Type{v(8), v(3)}})
	got := shown(one, a, b, two.Node(f), unify.NewVars().Node(f))
	want := []string{"a -{x, x | r1}-> b", "a * c", "d * b", "a -{x, x | r1}-> b", "e -{x, x | r2}-> f"}
	for i := range want {
		if got[i] != want[i] {
			t.Errorf("got %s, want %s", got[i], want[i])
		}
	}
	if len(all.Types) != 2 || len(all.Rows) != 1 || len(two.Types) != 3 {
		t.Error("how many there are")
	}
	f.Ops[0] = "changed"
	if got := shown(one)[0]; got != want[0] {
		t.Error(got)
	}
}
