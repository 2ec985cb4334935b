package syntax

import "effectus/api"

func beginsAtom(token api.Token) bool {
	switch token.Kind {
	case api.TokName, api.TokInt:
		return true
	}
	switch token.Text {
	case "~", "true", "false", "(", "[":
		return true
	}
	return false
}

func (r *reader) atom() api.Node {
	if !beginsAtom(r.look()) {
		r.wrong()
	}
	token := r.take()
	n := api.Node{At: token.At}
	switch token.Kind {
	case api.TokName:
		n.Kind, n.Name = api.EVar, token.Text
		return n
	case api.TokInt:
		n.Kind, n.N = api.EInt, token.N
		return n
	}
	switch token.Text {
	case "~":
		n.Kind, n.N = api.EInt, -r.needKind(api.TokInt).N
	case "true":
		n.Kind, n.N = api.EBool, 1
	case "false":
		n.Kind = api.EBool
	case "(":
		return r.round(n.At)
	case "[":
		return r.square(n.At)
	}
	return n
}

// round reads what stands behind a round bracket.
func (r *reader) round(at int) api.Node {
	if r.takes(")") {
		return api.Node{Kind: api.EUnit, At: at}
	}
	n := r.expr()
	if r.takes(",") {
		n = api.Node{Kind: api.EPair, At: at, Kids: []api.Node{n, r.expr()}}
	}
	r.need(")")
	return n
}

// square reads what stands behind a square bracket.
func (r *reader) square(at int) api.Node {
	list := api.Node{Kind: api.ENil, At: at}
	if r.takes("]") {
		return list
	}
	elements := []api.Node{r.expr()}
	for r.takes(",") {
		elements = append(elements, r.expr())
	}
	r.need("]")
	for i := len(elements) - 1; i >= 0; i-- {
		list = joined(api.ECons, "", elements[i], list)
	}
	return list
}
