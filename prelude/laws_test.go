package prelude_test

import (
	"fmt"
	"strings"
	"testing"

	"effectus/prelude"
)

// TestLaws: what stands on both sides of a law comes to the same, ahead of any expression and behind one.
func TestLaws(t *testing.T) {
	laws := [][2]string{
		{"(do put 3; do put 4; E)", "(do put 4; E)"}, {"(do put 3; let x0 = do get () in do put (x0 + 1); E + x0)", "(do put 3; let x0 = 3 in do put (x0 + 1); E + x0)"}, {"(do put (do get ()); E)", "E"}, {"(let x0 = do get () in do put x0; E)", "E"},
		{"(let x0 = do get () in let x1 = do get () in E + x0 * x1)", "(let x0 = do get () in let x1 = x0 in E + x0 * x1)"}, {"(E; do put 3; do put 4)", "(E; do put 4)"}, {"(E; do put (do get ()))", "(E; ())"},
	}
	for seed := range int64(100) {
		m := newMaker("state", seed)
		e := m.number(3, 0)
		for _, law := range laws {
			var sides [2]string
			for i, side := range law {
				f := fmt.Sprintf("(fn u => let e = fn v => %s in %s)", e.text, strings.ReplaceAll(side, "E", "e ()"))
				sides[i] = comesTo(t, prelude.Text("state")+"main = state 7 "+f)
			}
			if sides[0] != sides[1] {
				t.Errorf("%s: %s, %s: %s, of %s", law[0], sides[0], law[1], sides[1], e.text)
			}
		}
	}
}

// TestSameAnswers: what is answered hangs on the name alone.
func TestSameAnswers(t *testing.T) {
	for name := range names {
		first := prelude.Text(name)
		prelude.Text("none")
		if again := prelude.Text(name); again != first {
			t.Errorf("%s: %s, then %s", name, first, again)
		}
	}
}
