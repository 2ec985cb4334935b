package syntax

import (
	"strconv"
	"strings"

	"effectus/api"
)

type printer struct{ tokens []string }

func (p *printer) say(tokens ...string) {
	p.tokens = append(p.tokens, tokens...)
}

// write puts brackets around a node whose level is below the one that is asked for.
func (p *printer) write(n api.Node, asked int) {
	if levelOf(n) >= asked {
		p.bare(n)
		return
	}
	p.say("(")
	p.bare(n)
	p.say(")")
}

func levelOf(n api.Node) int {
	switch n.Kind {
	case api.ELet, api.EFn, api.EIf, api.ECase, api.EHandle, api.ESeq, api.YFn:
		return 0
	case api.YPair:
		return 1
	case api.ECons, api.YList:
		return 2
	case api.EApp, api.EDo, api.EFst, api.ESnd:
		return 5
	case api.EOp:
		return levelOfSign(n.Name)
	}
	return 6
}

func levelOfSign(sign string) int {
	switch sign {
	case "+", "-":
		return 3
	case "*":
		return 4
	}
	return 1
}

func (p *printer) bare(n api.Node) {
	switch n.Kind {
	case api.Prog:
		p.program(n)
	case api.DOp:
		p.operation(n)
	case api.DLet:
		p.binding("def", n)
	case api.ELet:
		p.binding("let", n)
		p.behind("in", n.Kids[1])
	case api.EFn:
		p.say("fn", n.Name)
		p.behind("=>", n.Kids[0])
	case api.EIf:
		p.behind("if", n.Kids[0])
		p.behind("then", n.Kids[1])
		p.behind("else", n.Kids[2])
	case api.ECase:
		p.cases(n)
	case api.EHandle:
		p.handler(n)
	case api.CReturn:
		p.say("return", n.Name)
		p.behind("=>", n.Kids[0])
	case api.COp:
		p.say(n.Name, n.Kids[0].Name, n.Kids[1].Name)
		p.behind("=>", n.Kids[2])
	case api.EPair:
		p.behind("(", n.Kids[0])
		p.behind(",", n.Kids[1])
		p.say(")")
	case api.ESeq, api.ECons, api.EOp, api.YFn, api.YPair:
		p.infix(n)
	case api.EApp, api.EDo, api.EFst, api.ESnd, api.YList:
		p.applied(n)
	default:
		p.single(n)
	}
}

// behind writes a node that never needs brackets where it stands.
func (p *printer) behind(token string, n api.Node) {
	p.say(token)
	p.write(n, 0)
}

func (p *printer) program(n api.Node) {
	last := len(n.Kids) - 1
	for _, kid := range n.Kids[:last] {
		p.write(kid, 0)
	}
	p.say("main")
	p.behind("=", n.Kids[last])
}

func (p *printer) operation(n api.Node) {
	p.say("op")
	if n.N == 1 {
		p.say("once")
	} else {
		p.say("many")
	}
	p.say(n.Name)
	p.behind(":", n.Kids[0])
	p.behind("=>", n.Kids[1])
}

// binding writes a def or a let up to what its name stands for.
func (p *printer) binding(word string, n api.Node) {
	p.say(word)
	if n.N == 1 {
		p.say("rec")
	}
	p.say(n.Name)
	value := n.Kids[0]
	if hasParameter(n) {
		p.say(value.Name)
		value = value.Kids[0]
	}
	p.behind("=", value)
}

// hasParameter tells whether a def or a let is written with a parameter ahead of its `=`.
func hasParameter(n api.Node) bool {
	return n.Kind == api.DLet || n.N == 1
}

func (p *printer) cases(n api.Node) {
	p.behind("case", n.Kids[0])
	p.say("of", "[", "]")
	p.behind("=>", n.Kids[1])
	p.say("|", n.Kids[2].Name, "::", n.Kids[3].Name)
	p.behind("=>", n.Kids[4])
	p.say("end")
}

func (p *printer) handler(n api.Node) {
	word := "handle"
	if n.N == 1 {
		word = "shallow"
	}
	p.behind(word, n.Kids[0])
	p.say("with")
	p.behind("{", n.Kids[1])
	for _, clause := range n.Kids[2:] {
		p.behind("|", clause)
	}
	p.say("}")
}

func (p *printer) infix(n api.Node) {
	left, right := sides(n)
	p.write(n.Kids[0], left)
	switch n.Kind {
	case api.ESeq:
		p.say(";")
	case api.ECons:
		p.say("::")
	case api.YPair:
		p.say("*")
	case api.YFn:
		p.arrow(n.Kids[2:])
	default:
		p.say(n.Name)
	}
	p.write(n.Kids[1], right)
}

// sides answers the levels that are asked for on the two sides of a sign.
func sides(n api.Node) (left, right int) {
	switch n.Kind {
	case api.ESeq, api.YFn:
		return 1, 0
	case api.YPair:
		return 2, 1
	case api.ECons:
		return 3, 2
	}
	switch n.Name {
	case "+", "-":
		return 3, 4
	case "*":
		return 4, 5
	}
	return 2, 2
}

func (p *printer) arrow(row []api.Node) {
	for i, operation := range row {
		if i == 0 {
			p.say("-", "{", operation.Name)
		} else {
			p.say(",", operation.Name)
		}
	}
	if len(row) > 0 {
		p.say("}")
	}
	p.say("->")
}

// applied writes what has no sign of its own between it and its kids.
func (p *printer) applied(n api.Node) {
	first := n.Kids[0]
	switch n.Kind {
	case api.EDo:
		p.say("do", n.Name)
	case api.EFst:
		p.say("fst")
	case api.ESnd:
		p.say("snd")
	case api.YList:
		p.write(first, 2)
		p.say("list")
		return
	case api.EApp:
		p.function(first)
		first = n.Kids[1]
	}
	p.write(first, 6)
}

// function writes what is applied: applications group to the left.
func (p *printer) function(n api.Node) {
	if n.Kind == api.EApp {
		p.bare(n)
		return
	}
	p.write(n, 6)
}

// single writes what is made of no other things.
func (p *printer) single(n api.Node) {
	switch n.Kind {
	case api.EInt:
		p.number(n.N)
	case api.EBool:
		p.truth(n.N)
	case api.EUnit:
		p.say("(", ")")
	case api.ENil:
		p.say("[", "]")
	case api.EVar, api.PName:
		p.say(n.Name)
	case api.YInt:
		p.say("int")
	case api.YBool:
		p.say("bool")
	case api.YUnit:
		p.say("unit")
	}
}

func (p *printer) number(n int) {
	digits, below := strings.CutPrefix(strconv.Itoa(n), "-")
	if below {
		p.say("~")
	}
	p.say(digits)
}

func (p *printer) truth(n int) {
	if n == 1 {
		p.say("true")
		return
	}
	p.say("false")
}
