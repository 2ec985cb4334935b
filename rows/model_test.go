package rows_test

import (
	"math/rand/v2"
	"slices"

	"effectus/api"
)

// model solves pairs by the chapter's words: it has a solution of what it has seen, and makes each variable that must be
// something that thing everywhere. Types are written out, however great they become.
type model struct {
	types map[int]api.Type
	rows  map[int]modelRow
	next  int // a row variable that no pair has
}

type modelRow struct {
	ops []string
	row int
}

// tooMuch: where the model would write out more parts than this it gives up.
const tooMuch = 200000

// modelSolve answers false if it gave up.
func modelSolve(pairs []api.Pair) ([]api.Type, api.Fault, bool) {
	m := &model{types: map[int]api.Type{}, rows: map[int]modelRow{}, next: 2000000000}
	for i, p := range pairs {
		if !m.same(p.A, p.B) {
			return nil, api.Fault{Kind: api.ErrType, At: i}, true
		}
		for _, seen := range pairs[:i+1] {
			parts := m.count(seen.A)
			if parts > tooMuch {
				return nil, api.Fault{}, false
			}
			if parts > api.MaxType {
				return nil, api.Fault{Kind: api.ErrBig, At: i}, true
			}
		}
	}
	var solved []api.Type
	types, rows := map[int]int{}, map[int]int{}
	for _, p := range pairs {
		solved = append(solved, anew(m.apply(p.A), types, rows))
	}
	return solved, api.Fault{}, true
}

func (m *model) count(t api.Type) int {
	if to, ok := m.types[t.N]; ok && t.Kind == api.TyVar {
		return m.count(to)
	}
	parts := 1 + len(m.applyRow(modelRow{t.Ops, t.Row}).ops)
	for _, arg := range t.Args {
		if parts <= tooMuch {
			parts += m.count(arg)
		}
	}
	return parts
}

func (m *model) apply(t api.Type) api.Type {
	if to, ok := m.types[t.N]; ok && t.Kind == api.TyVar {
		return m.apply(to)
	}
	r := m.applyRow(modelRow{t.Ops, t.Row})
	t.Ops, t.Row = r.ops, r.row
	args := t.Args
	t.Args = nil
	for _, arg := range args {
		t.Args = append(t.Args, m.apply(arg))
	}
	return t
}

func (m *model) applyRow(r modelRow) modelRow {
	for {
		to, ok := m.rows[r.row]
		if !ok {
			slices.Sort(r.ops)
			return r
		}
		r = modelRow{slices.Concat(r.ops, to.ops), to.row}
	}
}

func (m *model) holds(t api.Type, variable int) bool {
	if to, ok := m.types[t.N]; ok && t.Kind == api.TyVar {
		return m.holds(to, variable)
	}
	return t.Kind == api.TyVar && t.N == variable || slices.ContainsFunc(t.Args, func(arg api.Type) bool { return m.holds(arg, variable) })
}

func (m *model) same(a, b api.Type) bool {
	if to, ok := m.types[a.N]; ok && a.Kind == api.TyVar {
		return m.same(to, b)
	}
	if to, ok := m.types[b.N]; ok && b.Kind == api.TyVar || b.Kind == api.TyVar && a.Kind != api.TyVar {
		if !ok {
			to = b
			return m.same(to, a)
		}
		return m.same(a, to)
	}
	if a.Kind == api.TyVar {
		if b.Kind == api.TyVar && a.N == b.N {
			return true
		}
		if m.holds(b, a.N) {
			return false
		}
		m.types[a.N] = b
		return true
	}
	if a.Kind != b.Kind || !m.sameRow(modelRow{a.Ops, a.Row}, modelRow{b.Ops, b.Row}) {
		return false
	}
	for i := range a.Args {
		if !m.same(a.Args[i], b.Args[i]) {
			return false
		}
	}
	return true
}

// without takes operations out of a bag, each once for each time that it stands there.
func without(bag, taken []string) []string {
	bag = slices.Clone(bag)
	for _, op := range taken {
		if i := slices.Index(bag, op); i >= 0 {
			bag = slices.Delete(bag, i, i+1)
		}
	}
	return bag
}

func (m *model) sameRow(a, b modelRow) bool {
	a, b = m.applyRow(a), m.applyRow(b)
	d, e := without(a.ops, b.ops), without(b.ops, a.ops)
	switch {
	case a.row == b.row:
		return len(d) == 0 && len(e) == 0
	case a.row == 0:
		m.rows[b.row] = modelRow{d, 0}
		return len(e) == 0
	case b.row == 0:
		m.rows[a.row] = modelRow{e, 0}
		return len(d) == 0
	}
	m.next++
	m.rows[a.row] = modelRow{e, m.next}
	m.rows[b.row] = modelRow{d, m.next}
	return true
}

// anew numbers variables in the order in which they first stand: the maps have those of before.
func anew(t api.Type, types, rows map[int]int) api.Type {
	number := func(numbers map[int]int, n int) int {
		if n > 0 && numbers[n] == 0 {
			numbers[n] = len(numbers) + 1
		}
		return numbers[n]
	}
	if t.Kind == api.TyVar {
		t.N = number(types, t.N)
	}
	args := t.Args
	t.Args = nil
	for i, arg := range args {
		t.Args = append(t.Args, anew(arg, types, rows))
		if i == 0 && t.Row > 0 {
			t.Row = number(rows, t.Row)
		}
	}
	return t
}

// maker makes proper types, with so many variables behind from.
type maker struct {
	rand                *rand.Rand
	from, vars, rowVars int
}

// make takes about as many parts as said.
func (m *maker) make(parts int) api.Type {
	if parts <= 1 {
		kind := m.rand.IntN(6)
		if kind > api.TyUnit {
			kind = api.TyVar
		}
		t := api.Type{Kind: kind}
		if kind == api.TyVar {
			t.N = m.from + 1 + m.rand.IntN(m.vars)
		}
		return t
	}
	switch left := m.rand.IntN(parts); m.rand.IntN(5) {
	case 0:
		return lists(1, m.make(parts-1))
	case 1, 2:
		return pair(m.make(left), m.make(parts-1-left))
	default:
		t := fn(m.make(left), m.make(parts-1-left), 0)
		t.Ops, t.Row = m.row()
		return t
	}
}

func (m *maker) row() ([]string, int) {
	var ops []string
	for range m.rand.IntN(4) - 1 {
		ops = append(ops, []string{"w", "x", "y", "z"}[m.rand.IntN(4)])
	}
	slices.Sort(ops)
	return ops, max(0, m.rand.IntN(m.rowVars+2)-1)
}

// like makes a type like another: parts of it are others, or variables.
func (m *maker) like(t api.Type) api.Type {
	switch m.rand.IntN(12) {
	case 0:
		return v(m.from + 1 + m.rand.IntN(m.vars))
	case 1:
		return m.make(m.rand.IntN(4))
	}
	t = cloneType(t)
	if t.Kind == api.TyFn && m.rand.IntN(3) == 0 {
		t.Ops, t.Row = m.row()
	}
	for i, arg := range t.Args {
		t.Args[i] = m.like(arg)
	}
	return t
}

func (m *maker) pairs(count, parts int) []api.Pair {
	var pairs []api.Pair
	for range count {
		p := api.Pair{A: m.make(m.rand.IntN(parts))}
		if p.B = m.like(p.A); m.rand.IntN(6) == 0 {
			p.B = m.make(m.rand.IntN(parts))
		}
		if m.rand.IntN(2) == 0 {
			p.A, p.B = p.B, p.A
		}
		pairs = append(pairs, p)
	}
	return pairs
}

// ladder makes pairs of a variable and a type with later ones: most have a solution, and some become great.
func (m *maker) ladder(count, parts int) []api.Pair {
	var pairs []api.Pair
	for n := range count {
		m.from = n + 1
		pairs = append(pairs, api.Pair{A: v(n + 1), B: m.make(1 + m.rand.IntN(parts))})
	}
	m.from = 0
	if m.rand.IntN(2) == 0 {
		pairs[m.rand.IntN(count)].B = v(1 + m.rand.IntN(count))
	}
	m.rand.Shuffle(count, func(i, k int) { pairs[i], pairs[k] = pairs[k], pairs[i] })
	return pairs
}
