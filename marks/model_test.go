package marks_test

import (
	"slices"

	"effectus/api"
)

// model is P7.2 word by word: a set of known functions, and what is calm if these are called calm.
type model struct {
	functions []api.Term // the TRecs and TLets of known functions
	chosen    []bool     // of each of them: is it in the set?
}

func (m *model) gather(t api.Term) {
	if t.Op == api.TRec || t.Op == api.TLet && t.N != 0 && t.Kids[0].Op == api.TFn {
		m.functions = append(m.functions, t)
	}
	for _, kid := range t.Kids {
		m.gather(kid)
	}
}

// parts are the arity and the body of a known function.
func parts(f api.Term) (int, api.Term) {
	arity, body := 0, f.Kids[0]
	for body.Op == api.TFn {
		arity, body = arity+1, body.Kids[0]
	}
	return arity, body
}

func (m *model) calm(t api.Term) bool {
	switch t.Op {
	case api.TInt, api.TBool, api.TUnit, api.TNil, api.TVar, api.TFn:
		return true
	case api.TDo:
		return false
	case api.TApp:
		return m.calmCall(t)
	}
	for _, kid := range t.Kids {
		if !m.calm(kid) {
			return false
		}
	}
	return true
}

func (m *model) calmCall(t api.Term) bool {
	arguments := 0
	for ; t.Op == api.TApp; t = t.Kids[0] {
		if !m.calm(t.Kids[1]) {
			return false
		}
		arguments++
	}
	for i, f := range m.functions {
		if arity, _ := parts(f); t.Op == api.TVar && t.N == f.N && arity == arguments {
			return m.chosen[i]
		}
	}
	return false
}

// holds: the body of each function of the set is calm.
func (m *model) holds() bool {
	for i, f := range m.functions {
		if _, body := parts(f); m.chosen[i] && !m.calm(body) {
			return false
		}
	}
	return true
}

// choose goes through all sets, and takes all functions that are in one that holds; it tells whether these hold together.
func (m *model) choose() bool {
	most := make([]bool, len(m.functions))
	m.chosen = make([]bool, len(m.functions))
	for set := range 1 << len(m.functions) {
		for i := range m.chosen {
			m.chosen[i] = set>>i&1 == 1
		}
		if m.holds() {
			for i, in := range m.chosen {
				most[i] = most[i] || in
			}
		}
	}
	m.chosen = most
	return m.holds()
}

// shrink is for more functions than all sets can be gone through of: it leaves out one that can't stay, and begins anew.
func (m *model) shrink() {
	m.chosen = slices.Repeat([]bool{true}, len(m.functions))
	for i := 0; i < len(m.functions); i++ {
		if _, body := parts(m.functions[i]); m.chosen[i] && !m.calm(body) {
			m.chosen[i] = false
			i = -1
		}
	}
}

func (m *model) marks(t api.Term) []bool {
	list := []bool{m.calm(t)}
	for _, kid := range t.Kids {
		list = append(list, m.marks(kid)...)
	}
	return list
}
