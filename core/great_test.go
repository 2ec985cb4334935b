package core_test

import (
	"fmt"
	"strings"
	"testing"

	"effectus/api"
)

// fill repeats a part as often as it stands between the two others in a text that is not too long.
func fill(ahead, part, behind string) (string, int) {
	times := (api.MaxText - len(ahead) - len(behind)) / len(part)
	return ahead + strings.Repeat(part, times) + behind, times
}

// count tells how many terms of an op there are.
func count(t api.Term, op int) int {
	n := 0
	if t.Op == op {
		n = 1
	}
	for _, kid := range t.Kids {
		n += count(kid, op)
	}
	return n
}

// TestLongRows: terms that are as deep as a text has room for.
func TestLongRows(t *testing.T) {
	for _, row := range []struct {
		ahead, part, behind string
		op                  int
	}{
		{"main=", "1+", "1", api.TOp}, {"main=", "1*", "1", api.TOp}, {"main=", "1::", "[]", api.TCons}, {"main=[", "1,", "2]", api.TInt}, {"main=(1,2)", "\n#\n", "", -1},
	} {
		text, times := fill(row.ahead, row.part, row.behind)
		if row.op == api.TInt {
			times++ // the last one
		}
		if got := count(checkTerm(t, text), row.op); row.op >= 0 && got != times {
			t.Errorf("%.20s..: %d, want %d", text, got, times)
		}
	}
}

// TestDeepest: as much within one another as a text may have, or has room for.
func TestDeepest(t *testing.T) {
	for _, row := range []struct {
		times               int
		ahead, last, behind string
	}{
		{api.MaxDepth - 1, "let x=1 in ", "x", ""}, {api.MaxDepth - 1, "let rec f x=1 in ", "f", ""}, {api.MaxDepth - 1, "1;", "2", ""}, {api.MaxDepth - 1, "if true then 1 else ", "2", ""},
		{api.MaxDepth - 1, "1+(", "2", ")"}, {api.MaxDepth - 1, "fst(1,", "2", ")"}, {api.MaxDepth/2 - 1, "(fn x=>", "x", ")1"}, {api.MaxType/2 - 1, "fn x=>", "x", ""},
		{api.MaxDepth - 1, "handle ", "1", " with{return x=>x}"}, {api.MaxDepth - 1, "shallow 1 with{return x=>", "x", "}"},
		{api.MaxDepth - 1, "case[1]of[]=>", "1", "|x::y=>x end"}, {api.MaxDepth - 1, "case[1]of[]=>1|x::y=>", "x", " end"},
	} {
		times := min(row.times, (api.MaxText-len("main="+row.last))/len(row.ahead+row.behind))
		checkTerm(t, "main="+strings.Repeat(row.ahead, times)+row.last+strings.Repeat(row.behind, times))
	}
}

// TestManyNumbers: as many names, defs, operations and clauses as there is room for.
func TestManyNumbers(t *testing.T) {
	defs, ops, clauses, names := "", "", "", 0
	for ; len(defs) < api.MaxText-100; names++ {
		defs += fmt.Sprintf("def f%d x=x ", names)
	}
	last := checkTerm(t, defs+"main=f0")
	for last.Op == api.TLet {
		last = last.Kids[1]
	}
	if last.Op != api.TVar || last.N != 2 {
		t.Errorf("%d defs: %s", names, written(last, false))
	}
	for names = 0; len(ops)+len(clauses) < api.MaxText-100; names++ {
		ops += fmt.Sprintf("op once o%d:int=>int ", names)
		clauses = fmt.Sprintf("|o%d v k=>k v", names) + clauses
	}
	text := fmt.Sprintf("%smain=handle do o%d 1 with{return x=>x%s}", ops, names-1, clauses)
	term := checkTerm(t, text)
	if len(term.Ns) != 3*names || term.Ns[0] != names-1 || term.Ns[1] != 2 || term.Ns[3*names-3] != 0 || term.Ns[3*names-1] != 2*names+1 || term.Kids[0].N != names-1 {
		t.Errorf("%d operations: %v, %s", names, term.Ns, written(term.Kids[0], false))
	}
	if outcome := checkPlayed(t, text, 100); outcome.Value != "1" {
		t.Errorf("%d operations: %v", names, outcome)
	}
}
