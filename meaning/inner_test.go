package meaning

import (
	"math/bits"
	"math/rand"
	"slices"
	"testing"

	"effectus/api"
	"effectus/infer"
	"effectus/syntax"
)

// TestWrong: what has no types, and is run all the same, ends as Wrong where it means nothing.
func TestWrong(t *testing.T) {
	for _, row := range []struct {
		text  string
		steps int
	}{
		{"main = 1 2", 3}, {"main = (1, 2) (fn x => x)", 5}, {"main = [] []", 3}, {"main = if 1 then 2 else 3", 2}, {"main = if () then 2 else 3", 2}, {"main = fst 1", 2}, {"main = snd (fn x => x)", 2},
		{"main = fst [1, 2]", 6}, {"main = 1 :: 2", 3}, {"main = 1 :: (1, [])", 5}, {"main = case 1 of [] => 2 | x :: r => 3 end", 2}, {"main = case () of [] => 2 | x :: r => 3 end", 2},
		{"main = 1 + true", 3}, {"main = true + 1", 3}, {"main = () < 1", 3}, {"main = [] == []", 3}, {"main = (fn x => x) == (fn x => x)", 3},
		{"op once get : unit => int main = do get ()", 2}, {"op once get : unit => int op once put : int => unit main = handle 1 + do get () with { return x => x | put v k => 1 }", 5},
		{"op once get : unit => int main = handle 1 with { return x => do get () | get u k => 1 }", 4},
		{"op once get : unit => int main = handle do get () with { return x => x | get u k => do get () }", 5},
		{"op once get : unit => int main = shallow do get () + do get () with { return x => x | get u k => k 1 }", 9},
		{"def f x = x + 1 main = f (); 7", 8}, {"def rec f x = if x == 0 then true () else f (x - 1) main = f 1", 20},
	} {
		tree, fault := syntax.Parse(row.text)
		if fault.Kind != api.OK {
			t.Errorf("%s: %v", row.text, fault)
			continue
		}
		if _, fault := infer.Check(tree); fault.Kind == api.OK {
			t.Errorf("%s: has types", row.text)
		}
		if outcome := newRunner(1000).run(programOf(tree)); outcome != (api.Outcome{Kind: api.Wrong, Steps: row.steps}) {
			t.Errorf("%s: %v", row.text, outcome)
		}
	}
}

// TestSight: a name is found wherever it stands, in few moves.
func TestSight(t *testing.T) {
	s := noSight()
	for depth := 1; depth <= 1500; depth++ {
		s = s.with(number(depth))
	}
	for depth := 1; depth <= s.depth; depth++ {
		if found := s.at(depth); found != number(depth) {
			t.Fatalf("at %d: %v", depth, found)
		}
		moves := 0
		for at := s; at.depth > depth; moves++ {
			if at.far.depth < depth {
				at = at.outer
			} else {
				at = at.far
			}
		}
		if most := 3 * bits.Len(uint(s.depth)); moves > most {
			t.Errorf("%d moves to %d", moves, depth)
		}
	}
}

// plainStack is a stack as a list, the innermost segment last.
type plainStack []segment

func (p *plainStack) top() *segment { return &(*p)[len(*p)-1] }

func (p *plainStack) trim() {
	if *p.top() == (segment{}) && len(*p) > 1 {
		*p = (*p)[:len(*p)-1]
	}
}

func (p *plainStack) cut(op int) (plainStack, *handler) {
	for i, s := range slices.Backward(*p) {
		own := s.ops()
		if !own.has(op) {
			continue
		}
		piece := slices.Clone((*p)[i:])
		if s.handler.of.shallow {
			piece[0].handler = nil
		}
		if piece[0] == (segment{}) {
			piece = piece[1:]
		}
		*p = slices.Clone((*p)[:i])
		return piece, s.handler
	}
	return nil, nil
}

// written answers the segments of a row, the innermost last; each part of a row has to know which operations it handles.
func written(t *testing.T, r *row) plainStack {
	var all plainStack
	for ; r != nil; r = r.rest {
		if r.inner != nil {
			inner := written(t, r.inner)
			slices.Reverse(inner)
			all = append(all, inner...)
		} else {
			all = append(all, r.first)
		}
		var ops opSet
		if r.rest != nil {
			ops.addAll(r.rest.ops)
		}
		ops.addAll(r.own())
		if ops != r.ops {
			t.Fatalf("a row says %v, and has %v", r.ops, ops)
		}
	}
	slices.Reverse(all)
	return all
}

type keptPiece struct {
	row   *row
	plain plainStack
}

// TestStack: a stack is as a list of its segments, whatever is done with it; what was cut off stays as it is.
func TestStack(t *testing.T) {
	longest := 0
	for seed := range int64(300) {
		r := rand.New(rand.NewSource(seed))
		var s stack
		plain := plainStack{{}}
		var kept []keptPiece
		for range 200 {
			switch n := r.Intn(10); {
			case n < 3:
				w := wait(func(value) {})
				s.push(w)
				plain.top().waits = s.top.waits
			case n < 5:
				of := &handling{shallow: r.Intn(3) == 0}
				for range r.Intn(3) {
					of.ops.add(r.Intn(mostOps))
					of.ops.add(r.Intn(4))
				}
				h := &handler{of: of}
				s.open(h)
				plain.trim()
				plain = append(plain, segment{handler: h})
			case n < 6 && len(plain) > 1:
				s.close()
				plain = plain[:len(plain)-1]
			case n < 7:
				plain.top().waits, s.top.waits = nil, nil
			case n < 8 || len(kept) == 0 || len(plain) > 200:
				op := r.Intn(5)
				piece, h := s.cut(op)
				list, wanted := plain.cut(op)
				if h != wanted {
					t.Fatalf("cut of %d: another handler", op)
				}
				if h != nil {
					kept = append(kept, keptPiece{piece, list})
				}
			default:
				p := kept[r.Intn(len(kept))]
				s.put(p.row)
				plain.trim()
				plain = append(plain, p.plain...)
			}
			if got := append(written(t, s.outer), s.top); !slices.Equal(got, plain) {
				t.Fatalf("seed %d: %d segments, want %d", seed, len(got), len(plain))
			}
			longest = max(longest, len(plain))
		}
		for _, p := range kept {
			if got := written(t, p.row); !slices.Equal(got, p.plain) {
				t.Fatalf("seed %d: a piece is not as it was", seed)
			}
		}
	}
	if longest < 100 {
		t.Errorf("%d segments at most", longest)
	}
}

// rowsWithin tells how many rows stand within one another at most.
func rowsWithin(r *row) int {
	most := 0
	for ; r != nil; r = r.rest {
		if r.inner != nil {
			most = max(most, 1+rowsWithin(r.inner))
		}
	}
	return most
}

// TestStaysFlat: however often it is cut and put back, a stack of few segments stays small.
func TestStaysFlat(t *testing.T) {
	for _, shallow := range []bool{false, true} {
		for inner := range 4 {
			var s stack
			around := &handling{shallow: shallow}
			around.ops.add(0)
			s.open(&handler{of: around})
			s.push(func(value) {})
			for range inner {
				s.open(&handler{of: &handling{}})
			}
			for range 1000 {
				piece, _ := s.cut(0)
				if shallow {
					s.open(&handler{of: around})
				}
				s.put(piece)
			}
			if most, count := rowsWithin(s.outer), len(written(t, s.outer)); most > 2 || count > inner+3 {
				t.Errorf("shallow %v, %d inside: %d rows within one another, %d segments", shallow, inner, most, count)
			}
		}
	}
}
