package rows

import "effectus/api"

// node is a type while others are made the same as it. What it has become stands once, however often it is pointed to,
// since written out it may be far greater than what was handed over.
type node struct {
	kind    int
	becomes *node // nil: what it is itself
	args    []*node
	row     row
	number  int // of a variable: that of the answer, 0 before it is there
	round   int // the last one in which it was measured
	parts   int // what came of that; 0: it stands within itself, or it is not yet known
}

// now answers what a node has become.
func (n *node) now() *node {
	for n.becomes != nil {
		if n.becomes.becomes != nil {
			n.becomes = n.becomes.becomes // the way is shorter the next time
		}
		n = n.becomes
	}
	return n
}

// same makes two types the same, if they can be: with depths without end too, which measure finds.
func same(a, b *node) bool {
	a, b = a.now(), b.now()
	switch {
	case a == b:
		return true
	case b.kind == api.TyVar:
		b.becomes = a
		return true
	case a.kind == api.TyVar:
		a.becomes = b
		return true
	case a.kind != b.kind:
		return false
	}
	a.becomes = b // before its args: so that each two are met but once
	for i, arg := range a.args {
		if !same(arg, b.args[i]) {
			return false
		}
	}
	return sameRow(a.row, b.row)
}

// measure answers how many parts a type has, MaxType+1 for all that are more; 0 if it stands within itself.
func (n *node) measure(round int) int {
	n = n.now()
	if n.round == round {
		return n.parts
	}
	n.round, n.parts = round, 0
	parts := 1 + len(n.row.whole().ops)
	for _, arg := range n.args {
		more := arg.measure(round)
		if more == 0 {
			return 0
		}
		parts += more
	}
	n.parts = min(parts, api.MaxType+1)
	return n.parts
}
