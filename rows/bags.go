package rows

import "slices"

// row is a bag of operations, in the order of their bytes, and perhaps a variable.
type row struct {
	ops  []string
	rest *rowVar // nil: none
}

type rowVar struct {
	becomes *row // nil: nothing yet
	number  int  // that of the answer, 0 before it is there
}

// whole answers a row with what its variable stands for joined to it.
func (r row) whole() row {
	if r.rest == nil || r.rest.becomes == nil {
		return r
	}
	behind := r.rest.becomes.whole()
	r.rest.becomes = &behind // the way there is short from now on
	return row{ops: join(r.ops, behind.ops), rest: behind.rest}
}

func join(a, b []string) []string {
	all := slices.Concat(a, b)
	slices.Sort(all)
	return all
}

// lacking answers those of the operations that others lack, each as often as it is lacking there.
func lacking(ops, others []string) []string {
	var missing []string
	for _, op := range ops {
		for len(others) > 0 && others[0] < op {
			others = others[1:]
		}
		if len(others) > 0 && others[0] == op {
			others = others[1:]
			continue
		}
		missing = append(missing, op)
	}
	return missing
}

// sameRow makes two rows the same, if they can be.
func sameRow(a, b row) bool {
	a, b = a.whole(), b.whole()
	forA, forB := lacking(b.ops, a.ops), lacking(a.ops, b.ops)
	if a.rest == b.rest {
		return len(forA) == 0 && len(forB) == 0
	}
	var behind *rowVar
	if a.rest != nil && b.rest != nil {
		behind = &rowVar{}
	}
	return take(a.rest, forA, behind) && take(b.rest, forB, behind)
}

// take makes a row's variable stand for operations and what is behind them; a row without one can take no operations.
func take(v *rowVar, ops []string, behind *rowVar) bool {
	if v == nil {
		return len(ops) == 0
	}
	v.becomes = &row{ops: ops, rest: behind}
	return true
}
