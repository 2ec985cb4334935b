package syntax_test

import (
	"effectus/api"
)

// at is the place of what was read, without the brackets around what it begins with.
func (l leaf) at() int {
	switch {
	case l.rule == "":
		return l.token.At
	case l.rule == "tatom" && l.is(0, "("), l.rule == "atom" && l.is(0, "(") && l.is(2, ")"), l.rule == "atom" && l.is(0, "[") && !l.is(1, "]"):
		return l.parts[1].at()
	}
	return l.parts[0].at()
}

func (l leaf) is(i int, said string) bool {
	return i < len(l.parts) && l.parts[i].rule == "" && l.parts[i].token.Text == said
}

// of answers the parts that a rule has read, those of names for "".
func (l leaf) of(rule string) []leaf {
	var found []leaf
	for _, part := range l.parts {
		if part.rule == rule && (rule != "" || part.token.Kind == api.TokName) {
			found = append(found, part)
		}
	}
	return found
}

func node(kind, at int, name string, n int, kids ...api.Node) api.Node {
	return api.Node{Kind: kind, At: at, Name: name, N: n, Kids: kids}
}

func nameNode(l leaf) api.Node {
	return node(api.PName, l.token.At, l.token.Text, 0)
}

// programOf takes the parts of a text apart: an op has seven of them.
func programOf(parts []leaf) api.Node {
	prog := node(api.Prog, 0, "", 0)
	for parts[0].token.Text == "op" {
		once := map[string]int{"once": 1}[parts[1].token.Text]
		prog.Kids = append(prog.Kids, node(api.DOp, parts[0].at(), parts[2].token.Text, once, typeOf(parts[4]), typeOf(parts[6])))
		prog.N++
		parts = parts[7:]
	}
	for parts[0].token.Text == "def" {
		end := 0
		for parts[end].rule != "expr" {
			end++
		}
		prog.Kids = append(prog.Kids, letOf(api.DLet, leaf{rule: "def", parts: parts[:end+1]}))
		parts = parts[end+1:]
	}
	prog.Kids = append(prog.Kids, exprOf(parts[2]))
	return prog
}

// letOf makes a let or a def: its names are its own, then those of its parameters.
func letOf(kind int, l leaf) api.Node {
	names, exprs := l.of(""), l.of("expr")
	n := node(kind, l.at(), names[0].token.Text, 0, paramsOf(names[1:], exprOf(exprs[0])))
	if l.is(1, "rec") {
		n.N = 1
	}
	for _, e := range exprs[1:] {
		n.Kids = append(n.Kids, exprOf(e))
	}
	return n
}

func paramsOf(names []leaf, body api.Node) api.Node {
	if len(names) == 0 {
		return body
	}
	return node(api.EFn, names[0].at(), names[0].token.Text, 0, paramsOf(names[1:], body))
}

func typeOf(l leaf) api.Node {
	switch {
	case l.rule == "type" && len(l.parts) > 1:
		n := node(api.YFn, l.at(), "", 0, typeOf(l.parts[0]), typeOf(l.parts[len(l.parts)-1]))
		for _, name := range l.of("") {
			n.Kids = append(n.Kids, nameNode(name))
		}
		return n
	case l.rule == "pair" && len(l.parts) > 1:
		return node(api.YPair, l.at(), "", 0, typeOf(l.parts[0]), typeOf(l.parts[2]))
	case l.rule == "some" && len(l.parts) > 1:
		return node(api.YList, l.at(), "", 0, typeOf(leaf{rule: "some", parts: l.parts[:len(l.parts)-1]}))
	case l.is(0, "("):
		return typeOf(l.parts[1])
	case l.rule == "tatom":
		kind := map[string]int{"int": api.YInt, "bool": api.YBool, "unit": api.YUnit}[l.parts[0].token.Text]
		return node(kind, l.at(), "", 0)
	}
	return typeOf(l.parts[0])
}

func exprOf(l leaf) api.Node {
	if l.parts[0].rule != "" {
		if len(l.parts) == 1 {
			return signOf(l.parts[0])
		}
		return node(api.ESeq, l.at(), "", 0, signOf(l.parts[0]), exprOf(l.parts[2]))
	}
	var kids []api.Node
	for _, e := range l.of("expr") {
		kids = append(kids, exprOf(e))
	}
	names := l.of("")
	switch l.parts[0].token.Text {
	case "let":
		return letOf(api.ELet, l)
	case "fn":
		n := paramsOf(names, kids[0])
		n.At = l.at()
		return n
	case "if":
		return node(api.EIf, l.at(), "", 0, kids...)
	case "case":
		return node(api.ECase, l.at(), "", 0, kids[0], kids[1], nameNode(names[0]), nameNode(names[1]), kids[2])
	}
	return handlerOf(l, names, kids)
}

func handlerOf(l leaf, names []leaf, kids []api.Node) api.Node {
	n := node(api.EHandle, l.at(), "", 0, kids[0], node(api.CReturn, l.parts[4].at(), names[0].token.Text, 0, kids[1]))
	if l.is(0, "shallow") {
		n.N = 1
	}
	for i, kid := range kids[2:] {
		three := names[1+3*i:]
		n.Kids = append(n.Kids, node(api.COp, three[0].at(), three[0].token.Text, 0, nameNode(three[1]), nameNode(three[2]), kid))
	}
	return n
}

// signOf makes what a rule of signs has read.
func signOf(l leaf) api.Node {
	last := len(l.parts) - 1
	ahead := leaf{rule: l.rule, parts: l.parts[:max(0, last-1)]}
	switch {
	case l.rule == "atom":
		return atomOf(l)
	case l.is(0, "do"):
		return node(api.EDo, l.at(), l.parts[1].token.Text, 0, signOf(l.parts[2]))
	case l.is(0, "fst"):
		return node(api.EFst, l.at(), "", 0, signOf(l.parts[1]))
	case l.is(0, "snd"):
		return node(api.ESnd, l.at(), "", 0, signOf(l.parts[1]))
	case last == 0:
		return signOf(l.parts[0])
	case l.rule == "app":
		ahead.parts = l.parts[:last]
		return node(api.EApp, l.at(), "", 0, signOf(ahead), signOf(l.parts[last]))
	case l.rule == "cons":
		return node(api.ECons, l.at(), "", 0, signOf(l.parts[0]), signOf(l.parts[2]))
	}
	return node(api.EOp, l.at(), l.parts[last-1].token.Text, 0, signOf(ahead), signOf(l.parts[last]))
}

func atomOf(l leaf) api.Node {
	token := l.parts[0].token
	exprs := l.of("expr")
	switch {
	case token.Kind == api.TokName:
		return node(api.EVar, token.At, token.Text, 0)
	case token.Kind == api.TokInt:
		return node(api.EInt, token.At, "", token.N)
	case token.Text == "~":
		return node(api.EInt, token.At, "", -l.parts[1].token.N)
	case token.Text == "true":
		return node(api.EBool, token.At, "", 1)
	case token.Text == "false":
		return node(api.EBool, token.At, "", 0)
	case token.Text == "[":
		return listOf(token.At, exprs)
	case len(exprs) == 0:
		return node(api.EUnit, token.At, "", 0)
	case len(exprs) == 1:
		return exprOf(exprs[0])
	}
	return node(api.EPair, token.At, "", 0, exprOf(exprs[0]), exprOf(exprs[1]))
}

func listOf(at int, exprs []leaf) api.Node {
	if len(exprs) == 0 {
		return node(api.ENil, at, "", 0)
	}
	return node(api.ECons, exprs[0].at(), "", 0, exprOf(exprs[0]), listOf(at, exprs[1:]))
}
