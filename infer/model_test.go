package infer_test

import (
	"slices"

	"effectus/api"
	"effectus/rows"
)

// The model finds types in another way: all of them are written out, what variables stand for is one substitution, which is
// applied anew whenever a type is looked at, and names are a list in which hidden ones stay. It is slow, and gives up
// (tooGreat) where types are far greater than they may be.

type tooGreat struct{}

type modelFault struct{ fault api.Fault }

type modelName struct {
	name           string
	of             api.Type
	general, opens bool
	freeTypes      []int // of a general one: those that are new at each use
	freeRows       []int
}

type model struct {
	last  int
	types map[int]api.Type
	rows  map[int]api.Type // the Ops and the Row of a function's type
	ops   map[string][2]api.Type
}

func modelCheck(n api.Node) (types []api.Typing, fault api.Fault, gaveUp bool) {
	defer func() {
		switch told := recover().(type) {
		case nil:
		case modelFault:
			types, fault = nil, told.fault
		case tooGreat:
			types, fault, gaveUp = nil, api.Fault{}, true
		default:
			panic(told)
		}
	}()
	m := &model{types: map[int]api.Type{}, rows: map[int]api.Type{}, ops: map[string][2]api.Type{}}
	return m.program(n), api.Fault{}, false
}

func modelRefuse(kind api.Errno, at int) { panic(modelFault{api.Fault{Kind: kind, At: at}}) }

func (m *model) newVar() api.Type {
	m.last++
	return api.Type{Kind: api.TyVar, N: m.last}
}

func (m *model) newRow() int {
	m.last++
	return m.last
}

func arrow(takes, gives api.Type, row int, ops ...string) api.Type {
	ops = slices.Sorted(slices.Values(ops))
	return api.Type{Kind: api.TyFn, Args: []api.Type{takes, gives}, Ops: ops, Row: row}
}

func listOf(t api.Type) api.Type { return api.Type{Kind: api.TyList, Args: []api.Type{t}} }

func pairOf(a, b api.Type) api.Type { return api.Type{Kind: api.TyPair, Args: []api.Type{a, b}} }

func basic(kind int) api.Type { return api.Type{Kind: kind} }

// full writes a type out as it is by now.
func (m *model) full(t api.Type) api.Type {
	left := 20000
	return m.fullWithin(t, &left)
}

func (m *model) fullWithin(t api.Type, left *int) api.Type {
	*left -= 1 + len(t.Ops)
	if *left < 0 {
		panic(tooGreat{})
	}
	if t.Kind == api.TyVar {
		if is, ok := m.types[t.N]; ok {
			return m.fullWithin(is, left)
		}
		return t
	}
	out := api.Type{Kind: t.Kind}
	out.Ops, out.Row = m.fullRow(t.Ops, t.Row)
	for _, arg := range t.Args {
		out.Args = append(out.Args, m.fullWithin(arg, left))
	}
	return out
}

func (m *model) fullRow(ops []string, row int) ([]string, int) {
	all := slices.Clone(ops)
	for {
		is, ok := m.rows[row]
		if row == 0 || !ok {
			slices.Sort(all)
			return all, row
		}
		all = append(all, is.Ops...)
		row = is.Row
		if len(all) > 20000 {
			panic(tooGreat{})
		}
	}
}

// vars adds the variables of a type that is written out.
func vars(t api.Type, types, rows *[]int) {
	if t.Kind == api.TyVar {
		*types = append(*types, t.N)
	}
	if t.Row > 0 {
		*rows = append(*rows, t.Row)
	}
	for _, arg := range t.Args {
		vars(arg, types, rows)
	}
}

func (m *model) unify(a, b api.Type) bool {
	a, b = m.full(a), m.full(b)
	if a.Kind == api.TyVar && b.Kind == api.TyVar && a.N == b.N {
		return true
	}
	if a.Kind == api.TyVar {
		var in, none []int
		vars(b, &in, &none)
		if slices.Contains(in, a.N) {
			return false
		}
		m.types[a.N] = b
		return true
	}
	if b.Kind == api.TyVar {
		return m.unify(b, a)
	}
	if a.Kind != b.Kind || a.Kind == api.TyFn && !m.unifyRows(a.Ops, a.Row, b.Ops, b.Row) {
		return false
	}
	for i := range a.Args {
		if !m.unify(a.Args[i], b.Args[i]) {
			return false
		}
	}
	return true
}

func without(ops, others []string) []string {
	left := slices.Clone(ops)
	for _, op := range others {
		if i := slices.Index(left, op); i >= 0 {
			left = slices.Delete(left, i, i+1)
		}
	}
	return left
}

func (m *model) unifyRows(ops []string, row int, others []string, other int) bool {
	ops, row = m.fullRow(ops, row)
	others, other = m.fullRow(others, other)
	more, less := without(others, ops), without(ops, others)
	switch {
	case row == other:
		return len(more)+len(less) == 0
	case row == 0:
		m.rows[other] = api.Type{Ops: less}
		return len(more) == 0
	case other == 0:
		m.rows[row] = api.Type{Ops: more}
		return len(less) == 0
	}
	behind := m.newRow()
	m.rows[row], m.rows[other] = api.Type{Ops: more, Row: behind}, api.Type{Ops: less, Row: behind}
	return true
}

func (m *model) make(a, b api.Type, at int) {
	if !m.unify(a, b) {
		modelRefuse(api.ErrType, at)
	}
}

func partsOf(t api.Type) int {
	parts := 1 + len(t.Ops)
	for _, arg := range t.Args {
		parts += partsOf(arg)
	}
	return parts
}

func (m *model) bounded(t api.Type, at int) {
	if partsOf(m.full(t)) > api.MaxType {
		modelRefuse(api.ErrBig, at)
	}
}

// shown numbers the variables anew by solving a pair of the type with itself.
func (m *model) shown(name string, t api.Type) api.Typing {
	t = m.full(t)
	solved, fault := rows.Solve([]api.Pair{{A: t, B: t}})
	if fault.Kind != api.OK {
		panic(fault)
	}
	return api.Typing{Name: name, Type: rows.Show(solved[0])}
}

func (m *model) written(n api.Node, known []string) api.Type {
	switch n.Kind {
	case api.YInt, api.YBool, api.YUnit:
		return basic(n.Kind - api.YInt + api.TyInt)
	case api.YList:
		return listOf(m.written(n.Kids[0], known))
	case api.YPair:
		return pairOf(m.written(n.Kids[0], known), m.written(n.Kids[1], known))
	}
	takes := m.written(n.Kids[0], known)
	var ops []string
	for _, op := range n.Kids[2:] {
		if !slices.Contains(known, op.Name) {
			modelRefuse(api.ErrName, op.At)
		}
		if slices.Contains(ops, op.Name) {
			modelRefuse(api.ErrTwice, op.At)
		}
		ops = append(ops, op.Name)
	}
	return arrow(takes, m.written(n.Kids[1], known), 0, ops...)
}

func (m *model) program(n api.Node) []api.Typing {
	var known []string
	for _, op := range n.Kids[:n.N] {
		known = append(known, op.Name)
	}
	for i, op := range n.Kids[:n.N] {
		if slices.Contains(known[:i], op.Name) {
			modelRefuse(api.ErrTwice, op.At)
		}
		takes, gives := m.written(op.Kids[0], known), m.written(op.Kids[1], known)
		m.bounded(takes, op.At)
		m.bounded(gives, op.At)
		m.ops[op.Name] = [2]api.Type{takes, gives}
	}
	var all []api.Typing
	var sight []modelName
	rest := n.Kids[n.N:]
	for _, def := range rest[:len(rest)-1] {
		if slices.ContainsFunc(sight, func(s modelName) bool { return s.name == def.Name }) {
			modelRefuse(api.ErrTwice, def.At)
		}
		t := m.binds(def, sight, nil, 0)
		all = append(all, m.shown(def.Name, t))
		sight = append(sight, m.generalized(def.Name, t, sight))
	}
	main := rest[len(rest)-1]
	t := m.expr(main, sight, nil, 0)
	m.bounded(t, main.At)
	return append(all, m.shown("main", t))
}

func (m *model) binds(n api.Node, sight []modelName, ops []string, row int) api.Type {
	t := m.newVar()
	inner := sight
	if n.N == 1 {
		inner = with(sight, modelName{name: n.Name, of: t})
	}
	found := m.expr(n.Kids[0], inner, ops, row)
	m.make(t, found, n.At)
	m.bounded(t, n.At)
	return t
}

func with(sight []modelName, more ...modelName) []modelName {
	return slices.Concat(sight, more)
}

func (m *model) generalized(name string, t api.Type, sight []modelName) modelName {
	var types, rows, heldTypes, heldRows []int
	for _, s := range sight {
		var ownTypes, ownRows []int
		vars(m.full(s.of), &ownTypes, &ownRows)
		for _, v := range ownTypes {
			if !slices.Contains(s.freeTypes, v) {
				heldTypes = append(heldTypes, v)
			}
		}
		for _, v := range ownRows {
			if !slices.Contains(s.freeRows, v) {
				heldRows = append(heldRows, v)
			}
		}
	}
	vars(m.full(t), &types, &rows)
	out := modelName{name: name, of: m.full(t), general: true, opens: true}
	for _, v := range types {
		if !slices.Contains(heldTypes, v) {
			out.freeTypes = append(out.freeTypes, v)
		}
	}
	for _, v := range rows {
		if !slices.Contains(heldRows, v) {
			out.freeRows = append(out.freeRows, v)
		}
	}
	return out
}

func (m *model) use(n api.Node, sight []modelName) api.Type {
	for i := len(sight) - 1; i >= 0; i-- {
		s := sight[i]
		if s.name != n.Name {
			continue
		}
		t := s.of
		if s.general {
			t = m.renewed(m.full(t), s, map[int]api.Type{}, map[int]int{})
		}
		if s.opens {
			t = m.opened(m.full(t))
		}
		return t
	}
	modelRefuse(api.ErrName, n.At)
	return api.Type{}
}

func (m *model) renewed(t api.Type, s modelName, types map[int]api.Type, rows map[int]int) api.Type {
	if t.Kind == api.TyVar && slices.Contains(s.freeTypes, t.N) {
		if _, ok := types[t.N]; !ok {
			types[t.N] = m.newVar()
		}
		return types[t.N]
	}
	out := api.Type{Kind: t.Kind, N: t.N, Ops: slices.Clone(t.Ops), Row: t.Row}
	if slices.Contains(s.freeRows, t.Row) {
		if rows[t.Row] == 0 {
			rows[t.Row] = m.newRow()
		}
		out.Row = rows[t.Row]
	}
	for _, arg := range t.Args {
		out.Args = append(out.Args, m.renewed(arg, s, types, rows))
	}
	return out
}

func (m *model) opened(t api.Type) api.Type {
	if t.Kind != api.TyFn {
		return t
	}
	row := t.Row
	if row == 0 {
		row = m.newRow()
	}
	return arrow(t.Args[0], m.opened(t.Args[1]), row, t.Ops...)
}

func (m *model) expr(n api.Node, sight []modelName, ops []string, row int) api.Type {
	look := func(i int) api.Type { return m.expr(n.Kids[i], sight, ops, row) }
	lookAs := func(i int, t api.Type) { m.make(look(i), t, n.Kids[i].At) }
	switch n.Kind {
	case api.EInt, api.EBool, api.EUnit:
		return basic(n.Kind - api.EInt + api.TyInt)
	case api.ENil:
		return listOf(m.newVar())
	case api.EVar:
		return m.use(n, sight)
	case api.EFn:
		takes, own := m.newVar(), m.newRow()
		return arrow(takes, m.expr(n.Kids[0], with(sight, modelName{name: n.Name, of: takes}), nil, own), own)
	case api.EApp:
		f, x := look(0), look(1)
		takes, gives, own := m.newVar(), m.newVar(), m.newRow()
		m.make(f, arrow(takes, gives, own), n.Kids[0].At)
		m.make(takes, x, n.Kids[1].At)
		if !m.unifyRows(nil, own, ops, row) {
			modelRefuse(api.ErrRow, n.At)
		}
		return gives
	case api.ELet:
		return m.let(n, sight, ops, row)
	case api.ESeq:
		look(0)
		return look(1)
	case api.EIf:
		lookAs(0, basic(api.TyBool))
		t := look(1)
		lookAs(2, t)
		return t
	case api.EPair:
		first := look(0)
		return pairOf(first, look(1))
	case api.EFst, api.ESnd:
		first, second := m.newVar(), m.newVar()
		lookAs(0, pairOf(first, second))
		if n.Kind == api.EFst {
			return first
		}
		return second
	case api.ECons:
		first := look(0)
		second := look(1)
		m.make(second, listOf(first), n.Kids[1].At)
		return second
	case api.ECase:
		element := m.newVar()
		lookAs(0, listOf(element))
		t := look(1)
		inner := with(sight, modelName{name: n.Kids[2].Name, of: element}, modelName{name: n.Kids[3].Name, of: listOf(element)})
		m.make(m.expr(n.Kids[4], inner, ops, row), t, n.Kids[4].At)
		return t
	case api.EOp:
		lookAs(0, basic(api.TyInt))
		lookAs(1, basic(api.TyInt))
		if n.Name == "<" || n.Name == "==" {
			return basic(api.TyBool)
		}
		return basic(api.TyInt)
	case api.EDo:
		op, ok := m.ops[n.Name]
		if !ok {
			modelRefuse(api.ErrName, n.At)
		}
		lookAs(0, op[0])
		if !m.unifyRows(ops, row, []string{n.Name}, m.newRow()) {
			modelRefuse(api.ErrRow, n.At)
		}
		return op[1]
	}
	return m.handle(n, sight, ops, row)
}

func (m *model) let(n api.Node, sight []modelName, ops []string, row int) api.Type {
	t := m.binds(n, sight, ops, row)
	name := modelName{name: n.Name, of: t}
	if slices.Contains([]int{api.EInt, api.EBool, api.EUnit, api.ENil, api.EVar, api.EFn}, n.Kids[0].Kind) {
		name = m.generalized(n.Name, t, sight)
	}
	return m.expr(n.Kids[1], with(sight, name), ops, row)
}

func (m *model) handle(n api.Node, sight []modelName, ops []string, row int) api.Type {
	var handled []string
	for _, clause := range n.Kids[2:] {
		if _, ok := m.ops[clause.Name]; !ok {
			modelRefuse(api.ErrName, clause.At)
		}
		if slices.Contains(handled, clause.Name) {
			modelRefuse(api.ErrTwice, clause.At)
		}
		handled = append(handled, clause.Name)
	}
	inside := slices.Concat(ops, handled)
	first := m.expr(n.Kids[0], sight, inside, row)
	end := n.Kids[1]
	t := m.expr(end.Kids[0], with(sight, modelName{name: end.Name, of: first}), ops, row)
	for _, clause := range n.Kids[2:] {
		op := m.ops[clause.Name]
		k := arrow(op[1], t, row, ops...)
		if n.N == 1 {
			k = arrow(op[1], first, row, inside...)
		}
		inner := with(sight, modelName{name: clause.Kids[0].Name, of: op[0], opens: true}, modelName{name: clause.Kids[1].Name, of: k, opens: true})
		m.make(m.expr(clause.Kids[2], inner, ops, row), t, clause.Kids[2].At)
	}
	return t
}
