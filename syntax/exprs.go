package syntax

import "effectus/api"

func (r *reader) expr() api.Node {
	return within(r, &r.exprs, func() api.Node {
		if rule := ruleOf(r.look().Text); rule != nil {
			return rule(r)
		}
		return r.sequence()
	})
}

// ruleOf answers the rule of an expression that begins with a word; nil if it is of no such word.
func ruleOf(word string) func(*reader) api.Node {
	switch word {
	case "let":
		return (*reader).let
	case "fn":
		return (*reader).function
	case "if":
		return (*reader).choice
	case "case":
		return (*reader).cases
	case "handle", "shallow":
		return (*reader).handler
	}
	return nil
}

func (r *reader) let() api.Node {
	n := r.binding(api.ELet)
	r.need("in")
	n.Kids = append(n.Kids, r.expr())
	return n
}

func (r *reader) function() api.Node {
	at := r.take().At
	params := r.names(1)
	r.need("=>")
	n := functions(params, r.expr())
	n.At = at
	return n
}

func (r *reader) choice() api.Node {
	at := r.take().At
	question := r.expr()
	r.need("then")
	yes := r.expr()
	r.need("else")
	return api.Node{Kind: api.EIf, At: at, Kids: []api.Node{question, yes, r.expr()}}
}

func (r *reader) cases() api.Node {
	at := r.take().At
	list := r.expr()
	r.need("of")
	r.need("[")
	r.need("]")
	r.need("=>")
	empty := r.expr()
	r.need("|")
	head := r.named()
	r.need("::")
	rest := r.named()
	r.need("=>")
	full := r.expr()
	r.need("end")
	return api.Node{Kind: api.ECase, At: at, Kids: []api.Node{list, empty, head, rest, full}}
}

func (r *reader) handler() api.Node {
	n := api.Node{Kind: api.EHandle, At: r.look().At}
	if r.take().Text == "shallow" {
		n.N = 1
	}
	handled := r.expr()
	r.need("with")
	r.need("{")
	n.Kids = []api.Node{handled, r.returnClause()}
	for r.takes("|") {
		n.Kids = append(n.Kids, r.clause())
	}
	r.need("}")
	return n
}

func (r *reader) returnClause() api.Node {
	at := r.look().At
	r.need("return")
	name := r.name().Text
	r.need("=>")
	return api.Node{Kind: api.CReturn, At: at, Name: name, Kids: []api.Node{r.expr()}}
}

func (r *reader) clause() api.Node {
	operation := r.name()
	kids := []api.Node{r.named(), r.named()}
	r.need("=>")
	return api.Node{Kind: api.COp, At: operation.At, Name: operation.Text, Kids: append(kids, r.expr())}
}
