package syntax

import "effectus/api"

func (r *reader) program() api.Node {
	n := api.Node{Kind: api.Prog}
	for r.sees("op") {
		n.Kids = append(n.Kids, r.operation())
		n.N++
	}
	for r.sees("def") {
		n.Kids = append(n.Kids, r.binding(api.DLet))
	}
	r.need("main")
	r.need("=")
	n.Kids = append(n.Kids, r.expr())
	r.needKind(api.TokEnd)
	return n
}

func (r *reader) operation() api.Node {
	n := api.Node{Kind: api.DOp, At: r.take().At}
	if r.takes("once") {
		n.N = 1
	} else {
		r.need("many")
	}
	n.Name = r.name().Text
	r.need(":")
	from := r.typ()
	r.need("=>")
	n.Kids = []api.Node{from, r.typ()}
	return n
}

// binding reads a def or a let up to what its name stands for; only a let that is not rec does without parameters.
func (r *reader) binding(kind int) api.Node {
	n := api.Node{Kind: kind, At: r.take().At}
	least := 0
	if kind == api.DLet {
		least = 1
	}
	if r.takes("rec") {
		n.N, least = 1, 1
	}
	n.Name = r.name().Text
	params := r.names(least)
	r.need("=")
	n.Kids = []api.Node{functions(params, r.expr())}
	return n
}

// functions puts a function around the body for each parameter, the last one's innermost.
func functions(params []api.Token, body api.Node) api.Node {
	for i := len(params) - 1; i >= 0; i-- {
		body = api.Node{Kind: api.EFn, At: params[i].At, Name: params[i].Text, Kids: []api.Node{body}}
	}
	return body
}
