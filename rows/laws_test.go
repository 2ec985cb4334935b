package rows_test

import (
	"math/rand/v2"
	"slices"
	"testing"

	"effectus/api"
	"effectus/rows"
)

// checkModel answers how it went; false if the model gave up.
func checkModel(t *testing.T, pairs []api.Pair) (api.Errno, bool) {
	t.Helper()
	want, wantFault, ok := modelSolve(clonePairs(pairs))
	got, fault := rows.Solve(pairs)
	if ok && (fault != wantFault || !slices.EqualFunc(got, want, equal)) {
		t.Errorf("%s:\ngot  %v %s\nwant %v %s", briefly(pairs), fault, shown(got), wantFault, shown(want))
	}
	return fault.Kind, ok
}

func shown(types []api.Type) []string {
	var texts []string
	for _, x := range types {
		texts = append(texts, rows.Show(x))
	}
	return texts
}

func TestAgainstModel(t *testing.T) {
	m := &maker{rand: rand.New(rand.NewPCG(5, 6))}
	ended := map[api.Errno]int{}
	check := func(pairs []api.Pair) {
		if kind, ok := checkModel(t, pairs); ok {
			ended[kind]++
		}
	}
	for i := range 20000 {
		m.vars, m.rowVars = 1+m.rand.IntN(12), 1+m.rand.IntN(8)
		check(m.pairs(1+i%6, 4+i%23))
		m.vars = 1 + i%3
		check(m.ladder(1+i%13, 4+i%9))
	}
	for kind, least := range map[api.Errno]int{api.OK: 8000, api.ErrType: 8000, api.ErrBig: 1000} {
		if ended[kind] < least {
			t.Errorf("fault %d only %d times: the pairs tell too little", kind, ended[kind])
		}
	}
}

// eachType goes through small types with all that they can be made of.
func eachType(depth int, yield func(api.Type)) {
	for _, text := range []string{"int", "a", "b"} {
		yield(ty(text))
	}
	if depth == 0 {
		return
	}
	eachType(depth-1, func(arg api.Type) {
		yield(lists(1, arg))
		for row := range 3 {
			for _, ops := range [][]string{nil, {"x"}, {"y"}, {"x", "x"}, {"x", "y"}} {
				yield(fn(arg, ty("int"), row, ops...))
				if arg.Kind == api.TyVar {
					yield(fn(ty("int"), arg, row, ops...))
				}
			}
		}
		eachType(0, func(other api.Type) { yield(pair(arg, other)) })
	})
}

// TestShortPairs: all pairs of small types.
func TestShortPairs(t *testing.T) {
	var all []api.Type
	eachType(1, func(x api.Type) { all = append(all, x) })
	for _, a := range all {
		for _, b := range all {
			checkModel(t, []api.Pair{{A: a, B: b}})
		}
	}
}

// choice is types for the variables 1 and 2, and rows for the row variables 1 and 2.
type choice struct {
	types [2]api.Type
	rows  [2]modelRow
}

func (c choice) put(t api.Type) api.Type {
	if t.Kind == api.TyVar {
		return c.types[t.N-1]
	}
	t = cloneType(t)
	if t.Row > 0 {
		to := c.rows[t.Row-1]
		t.Ops, t.Row = slices.Concat(t.Ops, to.ops), to.row
		slices.Sort(t.Ops)
	}
	for i, arg := range t.Args {
		t.Args[i] = c.put(arg)
	}
	return t
}

// eachChoice goes through small types and rows; their variables, from 3 on, are those of no pair.
func eachChoice(yield func(choice)) {
	types := []api.Type{ty("int"), ty("c"), ty("int list"), ty("c list"), ty("int -> int"), ty("int -{x | r3}-> c")}
	rows := []modelRow{{}, {row: 3}, {row: 4}, {ops: []string{"x"}}, {ops: []string{"x"}, row: 3}, {ops: []string{"y"}, row: 3}, {ops: []string{"x", "y"}, row: 3}, {ops: []string{"x", "x"}, row: 4}}
	for _, a := range types {
		for _, b := range types {
			for _, r := range rows {
				for _, s := range rows {
					yield(choice{[2]api.Type{a, b}, [2]modelRow{r, s}})
				}
			}
		}
	}
}

// instance tells whether a type is a general one with something for its variables; what these are is found on the way.
func instance(general, t api.Type, types map[int]api.Type, rows map[int]modelRow) bool {
	if general.Kind == api.TyVar {
		if _, ok := types[general.N]; !ok {
			types[general.N] = t
		}
		return equal(types[general.N], t)
	}
	if general.Kind != t.Kind || len(without(general.Ops, t.Ops)) > 0 {
		return false
	}
	rest := modelRow{without(t.Ops, general.Ops), t.Row}
	if general.Row > 0 {
		if _, ok := rows[general.Row]; !ok {
			rows[general.Row] = rest
		}
	}
	is := rows[general.Row]
	if general.Row == 0 {
		is = modelRow{}
	}
	if !slices.Equal(is.ops, rest.ops) || is.row != rest.row {
		return false
	}
	for i := range t.Args {
		if !instance(general.Args[i], t.Args[i], types, rows) {
			return false
		}
	}
	return true
}

// TestMostGeneral: every solution that is tried is the answer with something for its variables; where there is no answer, none is one.
func TestMostGeneral(t *testing.T) {
	m := &maker{rand: rand.New(rand.NewPCG(7, 8)), vars: 2, rowVars: 2}
	solutions := 0
	for i := range 150 {
		pairs := m.pairs(1+i%3, 6)
		got, fault := rows.Solve(pairs)
		eachChoice(func(c choice) {
			types, found := map[int]api.Type{}, map[int]modelRow{}
			for _, p := range pairs {
				if !equal(c.put(p.A), c.put(p.B)) {
					return
				}
			}
			solutions++
			if fault.Kind != api.OK {
				t.Errorf("%s: fault %v, but there is a solution", briefly(pairs), fault)
				return
			}
			for k, p := range pairs {
				if !instance(got[k], c.put(p.A), types, found) {
					t.Errorf("%s: %v is not the most general one: %s", briefly(pairs), shown(got), rows.Show(c.put(p.A)))
					return
				}
			}
		})
	}
	if solutions < 1000 {
		t.Errorf("only %d solutions: the pairs tell too little", solutions)
	}
}

// TestSolvedAgain: an answer solves itself, and the pairs as well: with it beside them nothing more is found out.
func TestSolvedAgain(t *testing.T) {
	m := &maker{rand: rand.New(rand.NewPCG(9, 10)), vars: 4, rowVars: 4}
	for i := range 3000 {
		pairs := m.pairs(1+i%5, 12)
		got, fault := rows.Solve(pairs)
		if fault.Kind != api.OK {
			continue
		}
		var itself, turned []api.Pair
		for k, x := range got {
			itself = append(itself, api.Pair{A: x, B: cloneType(x)})
			turned = append(turned, api.Pair{A: pairs[k].B, B: pairs[k].A})
		}
		for _, others := range [][]api.Pair{itself, turned} {
			again, fault := rows.Solve(others)
			if fault.Kind != api.OK || !slices.EqualFunc(again, got, equal) {
				t.Errorf("%s: %v, then %v %v", briefly(pairs), shown(got), shown(again), fault)
			}
		}
	}
}

// madeOf takes what a maker draws from bytes, and goes on behind them: nobody could draw from one number for ever.
type madeOf struct {
	bytes []byte
	*rand.PCG
}

func (b *madeOf) Uint64() uint64 {
	drawn := b.PCG.Uint64()
	if len(b.bytes) == 0 {
		return drawn
	}
	first := b.bytes[0]
	b.bytes = b.bytes[1:]
	return uint64(first)<<56 | drawn>>8
}

func FuzzSolve(f *testing.F) {
	f.Add(uint8(1), uint8(5), []byte("a pair"))
	f.Add(uint8(4), uint8(20), []byte("more pairs, of greater types, with rows in them"))
	f.Fuzz(func(t *testing.T, count, parts uint8, bytes []byte) {
		m := &maker{rand: rand.New(&madeOf{bytes, rand.NewPCG(11, 12)}), vars: 5, rowVars: 4}
		checkModel(t, m.pairs(int(count%api.MaxPairs)+1, int(parts%60)+1))
	})
}
