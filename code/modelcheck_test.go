package code_test

import (
	"strings"
	"testing"

	"effectus/api"
	"effectus/code"
)

// modelShape says whether a text is a shape, by taking the shapes of its parts away.
func modelShape(s string) bool {
	rest, ok := shapeTaken(s)
	return ok && rest == ""
}

func shapeTaken(s string) (string, bool) {
	for s != "" && s[0] == 'l' {
		s = s[1:]
	}
	if s == "" {
		return "", false
	}
	if s[0] != 'p' {
		return s[1:], strings.Contains("ibufv", s[:1])
	}
	rest, ok := shapeTaken(s[1:])
	if !ok {
		return "", false
	}
	return shapeTaken(rest)
}

// modelCheck is P11.3 written a second time: not as one way through the instructions, but as what holds of each of them.
func modelCheck(c api.Code) api.Fault {
	bad := !modelShape(c.Shape) || len(c.Funs) == 0 || c.Funs[0].Free != 0
	for _, h := range c.Handlers {
		for i, op := range h.Ops {
			bad = bad || op < 0 || op >= len(c.Ops)
			for _, other := range h.Ops[:i] {
				bad = bad || op == other
			}
		}
	}
	if bad {
		return api.Fault{Kind: api.ErrNumber}
	}
	first := 0
	for n := range c.Funs {
		m := modelFun{c, n, c.Funs[n].Ins}
		if f := m.fault(); f.Kind != api.OK {
			f.At += first
			return f
		}
		first += len(m.ins)
	}
	return api.Fault{}
}

// modelFun is a function that is checked.
type modelFun struct {
	c   api.Code
	n   int
	ins []api.Ins
}

func (m modelFun) fault() api.Fault {
	for i, in := range m.ins {
		if kind := m.operand(in); kind != api.OK {
			return api.Fault{Kind: kind, At: i}
		}
	}
	for i := range m.ins {
		if m.bad(i) {
			return api.Fault{Kind: api.ErrFlow, At: i}
		}
	}
	if _, known := m.ahead(len(m.ins), len(m.ins)); known {
		return api.Fault{Kind: api.ErrFlow, At: len(m.ins)}
	}
	return api.Fault{}
}

func (m modelFun) operand(in api.Ins) api.Errno {
	f := m.c.Funs[m.n]
	many, kind := -1, api.ErrNumber
	switch in.Op {
	case api.InJump, api.InUnless:
		many, kind = len(m.ins), api.ErrJump
	case api.InFree:
		many = f.Free
	case api.InSlot, api.InStore, api.InPatch:
		many = f.Slots
	case api.InSign:
		many = 5
	case api.InMake:
		many = len(m.c.Funs)
	case api.InHandle:
		many = len(m.c.Handlers)
	case api.InDo:
		many = len(m.c.Ops)
	}
	if many >= 0 && in.A >= many || in.Op == api.InArg && m.n == 0 || in.Op == api.InMake && in.A == 0 {
		return kind
	}
	return api.OK
}

// tells is the places of which an instruction tells how many values there are, in their order.
func (m modelFun) tells(i int) []int {
	switch in := m.ins[i]; in.Op {
	case api.InReturn, api.InTail:
		return nil
	case api.InJump:
		return []int{in.A}
	case api.InUnless:
		return []int{in.A, i + 1}
	}
	return []int{i + 1}
}

// ahead is how many values there are ahead of a place, as the first of the instructions up to a bound says that tells of it.
func (m modelFun) ahead(place, bound int) (int, bool) {
	if place == 0 {
		return 0, true
	}
	for j := range bound {
		for _, p := range m.tells(j) {
			if p == place {
				return m.behind(j)
			}
		}
	}
	return 0, false
}

// behind is how many values there are behind an instruction.
func (m modelFun) behind(i int) (int, bool) {
	n, known := m.ahead(i, i)
	return n - m.takes(i) + rowsOf[m.ins[i].Op].puts, known
}

func (m modelFun) takes(i int) int {
	switch in := m.ins[i]; in.Op {
	case api.InMake:
		return m.c.Funs[in.A].Free
	case api.InHandle:
		return 2 + len(m.c.Handlers[in.A].Ops)
	default:
		return rowsOf[in.Op].takes
	}
}

// bad says whether an instruction is at fault, if none ahead of it is.
func (m modelFun) bad(i int) bool {
	n, known := m.ahead(i, i)
	behind, _ := m.behind(i)
	if !known || n < m.takes(i) || behind > 4000 {
		return true
	}
	if op := m.ins[i].Op; (op == api.InReturn || op == api.InTail) && n != m.takes(i) {
		return true
	}
	for _, p := range m.tells(i) {
		if old, known := m.ahead(p, i); known && old != behind || !known && p <= i {
			return true
		}
	}
	return false
}

// checkCheck holds what Check answers against the model; what it lets pass is walked through.
func checkCheck(t *testing.T, c api.Code) api.Fault {
	t.Helper()
	got, want := code.Check(c), modelCheck(c)
	if got != want {
		t.Fatalf("%+v: %v, want %v", c, got, want)
	}
	if got.Kind == api.OK {
		for n := range c.Funs {
			walk(t, modelFun{c, n, c.Funs[n].Ins})
		}
	}
	return got
}

// walk goes all ways through a function, as a machine would: there are always values enough, never too many, and it never goes on behind its last instruction.
func walk(t *testing.T, m modelFun) {
	t.Helper()
	type state struct{ place, values int }
	seen := map[state]bool{}
	work := []state{{}}
	for len(work) > 0 {
		s := work[len(work)-1]
		work = work[:len(work)-1]
		if seen[s] {
			continue
		}
		seen[s] = true
		if s.place >= len(m.ins) || s.values > 4000 || s.values < m.takes(s.place) {
			t.Fatalf("%+v: function %d comes to %+v", m.c, m.n, s)
		}
		values := s.values - m.takes(s.place) + rowsOf[m.ins[s.place].Op].puts
		for _, p := range m.tells(s.place) {
			work = append(work, state{p, values})
		}
		if len(m.tells(s.place)) == 0 && values != 0 {
			t.Fatalf("%+v: function %d leaves %d values at %d", m.c, m.n, values, s.place)
		}
	}
	if len(seen) > len(m.ins) {
		t.Fatalf("%+v: function %d has places with values that differ", m.c, m.n)
	}
}
