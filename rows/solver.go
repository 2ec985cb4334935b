package rows

import (
	"effectus/api"
	"effectus/unify"
)

// solver has what the variables of the pairs stand for, and of each pair what its sides have become.
type solver struct {
	vars   unify.Vars
	solved []*unify.Node
}

// add solves one more pair together with those before it.
func (s *solver) add(pair api.Pair) api.Errno {
	a, b := s.vars.Node(pair.A), s.vars.Node(pair.B)
	if !unify.Same(a, b) {
		return api.ErrType
	}
	s.solved = append(s.solved, a)
	return s.check()
}

// check looks at what all pairs so far have become: one of them may have grown by the last one.
func (s *solver) check() api.Errno {
	kind := api.OK
	for _, n := range s.solved {
		parts := n.Measure(len(s.solved))
		if parts == 0 {
			return api.ErrType
		}
		if parts > api.MaxType {
			kind = api.ErrBig // unless another one stands within itself
		}
	}
	return kind
}

func (s *solver) answers() []api.Type {
	var all []api.Type
	w := unify.NewWriter()
	for _, n := range s.solved {
		all = append(all, w.Write(n))
	}
	return all
}
