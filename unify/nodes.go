// Package unify has types while they are made the same.
package unify

import "effectus/api"

// Node is a type. What it has become stands once, however often it is pointed to, since written out it may be far greater
// than what was handed over.
type Node struct {
	Kind    int
	Args    []*Node
	Row     Row   // of a function
	becomes *Node // nil: what it is itself
	round   int   // the last one in which it was measured or marked
	parts   int   // what came of that; 0: it stands within itself, or it is not yet known
}

// New answers a new variable.
func New() *Node {
	return &Node{Kind: api.TyVar}
}

// Of answers a type that is no function's.
func Of(kind int, args ...*Node) *Node {
	return &Node{Kind: kind, Args: args}
}

// Fn answers a function's type.
func Fn(takes *Node, row Row, gives *Node) *Node {
	return &Node{Kind: api.TyFn, Args: []*Node{takes, gives}, Row: row}
}

// Now answers what a node has become.
func (n *Node) Now() *Node {
	for n.becomes != nil {
		if n.becomes.becomes != nil {
			n.becomes = n.becomes.becomes // the way is shorter the next time
		}
		n = n.becomes
	}
	return n
}

// Same makes two types the same, if they can be: with depths without end too, which Measure finds.
func Same(a, b *Node) bool {
	a, b = a.Now(), b.Now()
	switch {
	case a == b:
		return true
	case b.Kind == api.TyVar:
		b.becomes = a
		return true
	case a.Kind == api.TyVar:
		a.becomes = b
		return true
	case a.Kind != b.Kind:
		return false
	}
	a.becomes = b // before its args: so that each two are met but once
	for i, arg := range a.Args {
		if !Same(arg, b.Args[i]) {
			return false
		}
	}
	return SameRow(a.Row, b.Row)
}

// Measure answers how many parts a type has, MaxType+1 for all that are more; 0 if it stands within itself.
// Each round, of this and of marks, has a number of its own, above 0.
func (n *Node) Measure(round int) int {
	n = n.Now()
	if n.round == round {
		return n.parts
	}
	n.round, n.parts = round, 0
	parts := 1 + n.Row.whole().ops.size()
	for _, arg := range n.Args {
		more := arg.Measure(round)
		if more == 0 {
			return 0
		}
		parts += more
	}
	n.parts = min(parts, api.MaxType+1)
	return n.parts
}

// Mark marks all variables of a type.
func (n *Node) Mark(round int) {
	n = n.Now()
	if n.round == round {
		return
	}
	n.round = round
	for _, arg := range n.Args {
		arg.Mark(round)
	}
	n.Row.Mark(round)
}

// Marked tells whether a variable, or what it has become, was marked.
func (n *Node) Marked(round int) bool {
	return n.Now().round == round
}
