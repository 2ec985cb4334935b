package marks_test

import (
	"slices"
	"testing"

	"effectus/api"
	"effectus/infer"
	"effectus/lexer"
	"effectus/marks"
	"effectus/meaning"
	"effectus/syntax"
)

// sets is how many functions all sets are gone through of.
const sets = 8

// checkModel: the marks are those by the greatest set of calm functions. It tells how many functions are known, and how many of them calm.
func checkModel(t *testing.T, text string) (int, int) {
	t.Helper()
	term, list := marked(t, text)
	m := &model{}
	m.gather(term)
	if len(m.functions) > sets {
		m.shrink()
	} else if !m.choose() {
		t.Errorf("%s: no set of functions has all others", text)
	}
	if want := m.marks(term); !slices.Equal(list, want) {
		got, _ := written(term, list)
		wanted, _ := written(term, want)
		t.Errorf("%s:\n got %s\nwant %s", text, got, wanted)
	}
	calm := 0
	for _, chosen := range m.chosen {
		if chosen {
			calm++
		}
	}
	return len(m.functions), calm
}

// onces tells of each operation of a text whether it is a once one.
func onces(text string) []bool {
	tree, _ := syntax.Parse(text)
	var once []bool
	for _, n := range tree.Kids[:tree.N] {
		once = append(once, n.N == 1)
	}
	return once
}

// checkWatched: no operation is done while a calm term is evaluated; the run is that of the text.
func checkWatched(t *testing.T, text string, fuel int) *watcher {
	t.Helper()
	term, list := marked(t, text)
	w := watch(term, list, onces(text), fuel)
	if w.broken {
		got, _ := written(term, list)
		t.Errorf("%s: an operation is done within a calm term: %s", text, got)
	}
	tree, _ := syntax.Parse(text)
	defs := len(tree.Kids) - tree.N - 1
	if want, _ := meaning.Run(text, max(0, fuel-defs)); fuel >= defs && (want.Kind != w.kind || want.Steps+defs != w.steps) {
		t.Errorf("%s: %d after %d steps, want %v", text, w.kind, w.steps, want)
	}
	return w
}

// TestMade: made programs with functions of every kind have the marks that the document says, and are calm where they say so.
func TestMade(t *testing.T) {
	kinds := map[int]int{}
	functions, calm, calms, dones, faults := 0, 0, 0, 0, 0
	for seed := range int64(3000) {
		text := newMaker(seed).text()
		if _, fault := infer.Infer(text); fault.Kind != api.OK {
			checkFault(t, text)
			faults++
			continue
		}
		n, c := checkModel(t, text)
		w := checkWatched(t, text, 2000)
		functions, calm, calms, dones = functions+n, calm+c, calms+w.calms, dones+w.dones
		kinds[w.kind]++
	}
	t.Log(kinds, functions, calm, calms, dones, faults)
	if kinds[api.Done] < 2000 || kinds[api.Spent] < 100 || calm < 3000 || functions-calm < 2000 || calms < 10000 || dones < 2000 || faults > 300 {
		t.Errorf("%v: %d functions, %d calm; %d calm terms evaluated, %d operations done; %d faults", kinds, functions, calm, calms, dones, faults)
	}
}

// TestWatcher: were more terms marked, the watcher would see it.
func TestWatcher(t *testing.T) {
	seen := 0
	for seed := range int64(100) {
		text := newMaker(seed).text()
		if _, fault := infer.Infer(text); fault.Kind != api.OK {
			continue
		}
		term, list := marked(t, text)
		for i, calm := range list {
			more := slices.Clone(list)
			more[i] = true
			if w := watch(term, more, onces(text), 500); w.broken && !calm {
				seen++
			}
		}
	}
	t.Log(seen)
	if seen < 200 {
		t.Errorf("only %d terms are seen to do something", seen)
	}
}

// TestWatched: terms of which it is close.
func TestWatched(t *testing.T) {
	for _, text := range []string{
		"def f x y = do ask y main = handle (let g = f 1 in g 2) with { return x => x | ask v k => k v }",
		"def f x = (fn y => do ask y) main = handle f 1 2 with { return x => x | ask v k => k v }",
		"def f x = if x < 1 then fn y => do ask y else fn y => y main = handle (f 0 1, f 1 2) with { return x => x | ask v k => (1, v) }",
		"def f g = g 1 main = handle f (fn x => do ask x) with { return x => x | ask v k => k v }",
		"def f x = x main = handle f (do ask 1) with { return x => x | ask v k => k v }",
		"def f x y = y main = handle f (do ask 1) 2 with { return x => x | ask v k => k v }",
		"main = handle (let rec f x = if x < 1 then do ask x else f (x - 1) in let g x = f x in g 3) with { return x => x | ask v k => k v }",
		"main = handle (handle do ask 1 with { return x => x | fork v k => v }) with { return x => x | ask v k => k v }",
		"main = handle do fork 1 with { return x => x | fork v k => k (k v) }",
		"main = handle (let k = (handle (do fork 1; do ask 2) with { return x => fn y => x | fork v k => fn y => k v y }) in k 2) with { return x => x | ask v k => k v }",
		"main = handle (case [fn x => do ask x] of [] => 1 | f :: l => f 1 end) with { return x => x | ask v k => k v }",
		"main = handle (let f = fst (fn x => do ask x, 1) in f 2) with { return x => x | ask v k => k v }",
		"main = handle (let rec f x = (let rec g y = f (y - 1) in if x < 1 then do ask x else g x) in f 2) with { return x => x | ask v k => k v }",
	} {
		checkModel(t, someOps+text)
		if w := checkWatched(t, someOps+text, 1000); w.dones == 0 {
			t.Errorf("%s: nothing is done", text)
		}
	}
}

// TestSameTree: marks hang on the tree alone, not on how it is written.
func TestSameTree(t *testing.T) {
	for seed := range int64(300) {
		text := newMaker(seed).text()
		list, fault := marks.Marks(text)
		if fault.Kind != api.OK {
			continue
		}
		tokens, _ := lexer.Tokens(text)
		longer, ahead := "", 0
		for _, token := range tokens {
			longer += text[ahead:token.At] + "#\n"
			ahead = token.At
		}
		tree, _ := syntax.Parse(text)
		for _, other := range []string{syntax.Print(tree), longer} {
			again, _ := marks.Marks(other)
			if len(other) <= api.MaxText && !slices.Equal(list, again) {
				t.Errorf("%s: %v, %s: %v", text, list, other, again)
			}
		}
	}
}

// TestNewMemory: the same text has the same marks, and what is done to one answer changes no other.
func TestNewMemory(t *testing.T) {
	text := newMaker(1).text()
	first, _ := marks.Marks(text)
	second, _ := marks.Marks(text)
	if !slices.Equal(first, second) {
		t.Fatalf("%v, then %v", first, second)
	}
	want := slices.Clone(first)
	for i, mark := range first {
		first[i] = !mark
	}
	if third, _ := marks.Marks(text); !slices.Equal(second, want) || !slices.Equal(third, want) {
		t.Errorf("%v, %v, want %v", second, third, want)
	}
}

func FuzzMarks(f *testing.F) {
	for seed := range int64(20) {
		f.Add(newMaker(seed).text())
	}
	f.Fuzz(func(t *testing.T, text string) {
		if _, fault := infer.Infer(text); fault.Kind != api.OK {
			checkFault(t, text)
			return
		}
		checkModel(t, text)
		checkWatched(t, text, 500)
	})
}
