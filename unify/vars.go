package unify

import (
	"maps"

	"effectus/api"
)

// Vars has what the variables of types that are written out stand for, by their numbers.
type Vars struct {
	Types map[int]*Node
	Rows  map[int]*Rest
}

// NewVars answers none: each variable is a new one where it is first met.
func NewVars() Vars {
	return Vars{Types: map[int]*Node{}, Rows: map[int]*Rest{}}
}

// Clone answers the same variables; what is met by the one is not known to the other.
func (v Vars) Clone() Vars {
	return Vars{Types: maps.Clone(v.Types), Rows: maps.Clone(v.Rows)}
}

// Node makes a proper type one that can be made the same as others.
func (v Vars) Node(t api.Type) *Node {
	if t.Kind == api.TyVar {
		return met(v.Types, t.N)
	}
	n := &Node{Kind: t.Kind, Row: Row{ops: bagOf(t.Ops)}}
	if t.Row > 0 {
		n.Row.rest = met(v.Rows, t.Row)
	}
	for _, arg := range t.Args {
		n.Args = append(n.Args, v.Node(arg))
	}
	return n
}

// met answers what a variable stands for: at first a new one. (A new Node is a variable, since TyVar is 0.)
func met[T any](all map[int]*T, variable int) *T {
	if all[variable] == nil {
		all[variable] = new(T)
	}
	return all[variable]
}

// Writer writes types out. Variables get their numbers, from 1 on, where they are met first.
type Writer struct {
	types map[*Node]int
	rows  map[*Rest]int
}

// NewWriter answers one that has met no variables yet.
func NewWriter() *Writer {
	return &Writer{types: map[*Node]int{}, rows: map[*Rest]int{}}
}

// Write writes a type that does not stand within itself.
func (w *Writer) Write(n *Node) api.Type {
	n = n.Now()
	t := api.Type{Kind: n.Kind}
	switch n.Kind {
	case api.TyVar:
		t.N = numbered(w.types, n)
	case api.TyList:
		t.Args = []api.Type{w.Write(n.Args[0])}
	case api.TyPair:
		t.Args = []api.Type{w.Write(n.Args[0]), w.Write(n.Args[1])}
	case api.TyFn:
		takes := w.Write(n.Args[0])
		row := n.Row.whole()
		t.Ops = row.ops.list()
		if row.rest != nil {
			t.Row = numbered(w.rows, row.rest)
		}
		t.Args = []api.Type{takes, w.Write(n.Args[1])}
	}
	return t
}

// numbered answers the number of a variable, the next one if it has none yet.
func numbered[T any](all map[*T]int, variable *T) int {
	if all[variable] == 0 {
		all[variable] = len(all) + 1
	}
	return all[variable]
}

// Vars answers the variables of all that was written.
func (w *Writer) Vars() Vars {
	return Vars{Types: byNumber(w.types), Rows: byNumber(w.rows)}
}

func byNumber[T any](numbers map[*T]int) map[int]*T {
	all := map[int]*T{}
	for variable, number := range numbers {
		all[number] = variable
	}
	return all
}
