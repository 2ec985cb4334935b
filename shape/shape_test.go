package shape_test

import (
	"slices"
	"strings"
	"testing"

	"effectus/api"
	"effectus/shape"
	"effectus/syntax"
)

const text = "op once get : unit => int op many call : (int -{get}-> bool list) => int * unit " +
	"def rec f x = (f x; case [1] of [] => do get () | a :: l => fst (a, snd (l, ())) end) " +
	"main = let g = fn x => if x == 1 then true else false in let rec h x = h in " +
	"handle g (do get ()) with { return x => x | get u k => shallow k 1 with { return y => y | call h j => true } }"

func read(t *testing.T, text string) api.Node {
	t.Helper()
	tree, fault := syntax.Parse(text)
	if fault.Kind != api.OK {
		t.Fatalf("%.80s: %v", text, fault)
	}
	return tree
}

// TestRead: all trees that are read are sound, those with as many nodes as a text can have too.
func TestRead(t *testing.T) {
	texts := []string{text, "main = 1", "main = []"}
	for _, parts := range [][3]string{
		{"main=[1", ",1", "]"}, {"main=[[]", ",[]", "]"}, {"main=a", "+a", ""}, {"main=a", " a", ""}, {"main=fn a", " a", "=>a"}, {"def f x=1 ", "", "main=1"},
		{"", "def a a=a ", "main=a"}, {"", "op once a:int=>int ", "main=a"}, {"op once a:int", "*int", "=>int main=1"}, {"op once a:int", " list", "=>int main=1"}, {"op once a:int-{a", ",a", "}->int=>int main=1"},
		{"main=handle a with{return a=>a", "|a a a=>a", "}"},
	} {
		times := 1
		if parts[1] != "" {
			times = (api.MaxText - len(parts[0]) - len(parts[2])) / len(parts[1])
		}
		texts = append(texts, parts[0]+strings.Repeat(parts[1], times)+parts[2])
	}
	for _, text := range texts {
		if !shape.Sound(read(t, text)) {
			t.Errorf("%.80s is not sound", text)
		}
	}
}

// nodesOf are all nodes of a tree.
func nodesOf(n *api.Node) []*api.Node {
	all := []*api.Node{n}
	for i := range n.Kids {
		all = append(all, nodesOf(&n.Kids[i])...)
	}
	return all
}

// TestChanged: a node too few or too many, a name too long, and a kind that there is not.
func TestChanged(t *testing.T) {
	tree := read(t, text)
	many := []int{api.Prog, api.EHandle, api.YFn}
	for _, n := range nodesOf(&tree) {
		before := *n
		change := func(what string, sound bool) {
			if shape.Sound(tree) != sound {
				t.Errorf("kind %d at %d: %s: %v", before.Kind, before.At, what, !sound)
			}
			*n = before
		}
		change("as it is", true)
		n.Name = strings.Repeat("x", api.MaxName+1)
		change("a long name", false)
		n.Name = strings.Repeat("x", api.MaxName)
		change("a name", true)
		n.Kind = -1
		change("a kind below all", false)
		n.Kind = api.YFn + 1
		change("a kind above all", false)
		n.Kids = append(slices.Clone(before.Kids), api.Node{Kind: api.EInt})
		change("one more", false)
		if len(before.Kids) > 0 {
			n.Kids = nil
			change("none", false)
			n.Kids = before.Kids[:1]
			change("one alone", len(before.Kids) == 1)
		}
		if !slices.Contains(many, before.Kind) && len(before.Kids) > 1 {
			n.Kids = before.Kids[1:]
			change("one less", false)
		}
	}
}

func TestUnsound(t *testing.T) {
	one, op := api.Node{Kind: api.EInt}, api.Node{Kind: api.COp}
	fn := api.Node{Kind: api.EFn, Kids: []api.Node{one}}
	end := api.Node{Kind: api.CReturn, Kids: []api.Node{one}}
	within := make([]api.Node, 2)
	within[0], within[1] = api.Node{Kind: api.EApp, Kids: within}, one
	for name, n := range map[string]api.Node{
		"nothing":                     {},
		"a prog of no kids":           {Kind: api.Prog, Kids: []api.Node{}},
		"more operations than kids":   {Kind: api.Prog, N: 1, Kids: []api.Node{one}},
		"operations below 0":          {Kind: api.Prog, N: -1, Kids: []api.Node{one}},
		"far more operations":         {Kind: api.Prog, N: 1 << 62, Kids: []api.Node{one}},
		"no operation":                {Kind: api.Prog, N: 1, Kids: []api.Node{one, one}},
		"no def":                      {Kind: api.Prog, Kids: []api.Node{one, one}},
		"a def of a number":           {Kind: api.DLet, Kids: []api.Node{one}},
		"a let rec of a number":       {Kind: api.ELet, N: 1, Kids: []api.Node{one, one}},
		"a handler without a return":  {Kind: api.EHandle, Kids: []api.Node{one, one}},
		"a handler with two returns":  {Kind: api.EHandle, Kids: []api.Node{one, end, end}},
		"a handler with a bad clause": {Kind: api.EHandle, Kids: []api.Node{one, end, op}},
		"a row of types":              {Kind: api.YFn, Kids: []api.Node{{Kind: api.YInt}, {Kind: api.YInt}, {Kind: api.YInt}}},
		"a tree within itself":        within[0],
		"too many":                    {Kind: api.EHandle, Kids: slices.Concat([]api.Node{one, end}, make([]api.Node, 10000))},
		"too many names":              {Kind: api.YFn, Kids: slices.Concat([]api.Node{{Kind: api.YInt}, {Kind: api.YInt}}, slices.Repeat([]api.Node{{Kind: api.PName}}, 2*api.MaxText))},
	} {
		if shape.Sound(n) {
			t.Errorf("%s is sound", name)
		}
	}
	for name, n := range map[string]api.Node{
		"a prog":     {Kind: api.Prog, Kids: []api.Node{one}},
		"a def":      {Kind: api.DLet, Kids: []api.Node{fn}},
		"a let":      {Kind: api.ELet, Kids: []api.Node{one, one}},
		"a let rec":  {Kind: api.ELet, N: 1, Kids: []api.Node{fn, one}},
		"a handler":  {Kind: api.EHandle, Kids: []api.Node{one, end}},
		"many names": {Kind: api.YFn, Kids: slices.Concat([]api.Node{{Kind: api.YInt}, {Kind: api.YInt}}, slices.Repeat([]api.Node{{Kind: api.PName}}, 2*api.MaxText-3))},
	} {
		if !shape.Sound(n) {
			t.Errorf("%s is not sound", name)
		}
	}
}
