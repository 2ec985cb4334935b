package syntax

import "effectus/api"

// joined is a node of two kids that begins where the first of them does: its place is that one's.
func joined(kind int, name string, first, second api.Node) api.Node {
	return api.Node{Kind: kind, At: first.At, Name: name, Kids: []api.Node{first, second}}
}

func (r *reader) sequence() api.Node {
	first := r.comparison()
	if !r.takes(";") {
		return first
	}
	return joined(api.ESeq, "", first, r.expr())
}

func (r *reader) comparison() api.Node {
	first := r.cons()
	if !r.sees("==") && !r.sees("<") {
		return first
	}
	sign := r.take().Text
	return joined(api.EOp, sign, first, r.cons())
}

func (r *reader) cons() api.Node {
	first := r.sum()
	if !r.takes("::") {
		return first
	}
	return joined(api.ECons, "", first, r.cons())
}

func (r *reader) sum() api.Node {
	n := r.product()
	for r.sees("+") || r.sees("-") {
		sign := r.take().Text
		n = joined(api.EOp, sign, n, r.product())
	}
	return n
}

func (r *reader) product() api.Node {
	n := r.application()
	for r.sees("*") {
		sign := r.take().Text
		n = joined(api.EOp, sign, n, r.application())
	}
	return n
}

func (r *reader) application() api.Node {
	at := r.look().At
	switch {
	case r.takes("do"):
		name := r.name().Text
		return api.Node{Kind: api.EDo, At: at, Name: name, Kids: []api.Node{r.atom()}}
	case r.takes("fst"):
		return api.Node{Kind: api.EFst, At: at, Kids: []api.Node{r.atom()}}
	case r.takes("snd"):
		return api.Node{Kind: api.ESnd, At: at, Kids: []api.Node{r.atom()}}
	}
	n := r.atom()
	for beginsAtom(r.look()) {
		n = joined(api.EApp, "", n, r.atom())
	}
	return n
}
