package syntax

import "effectus/api"

func (r *reader) typ() api.Node {
	return within(r, &r.types, func() api.Node {
		from := r.pairType()
		var row []api.Node
		if r.takes("-") {
			row = r.row()
		} else if !r.sees("->") {
			return from
		}
		r.need("->")
		kids := append([]api.Node{from, r.typ()}, row...)
		return api.Node{Kind: api.YFn, At: from.At, Kids: kids}
	})
}

// row reads the operations of an arrow.
func (r *reader) row() []api.Node {
	r.need("{")
	row := []api.Node{r.named()}
	for r.takes(",") {
		row = append(row, r.named())
	}
	r.need("}")
	return row
}

func (r *reader) pairType() api.Node {
	first := r.listType()
	if !r.takes("*") {
		return first
	}
	return joined(api.YPair, "", first, r.pairType())
}

func (r *reader) listType() api.Node {
	n := r.atomType()
	for r.takes("list") {
		n = api.Node{Kind: api.YList, At: n.At, Kids: []api.Node{n}}
	}
	return n
}

func (r *reader) atomType() api.Node {
	token := r.look()
	kind := api.YInt
	switch token.Text {
	case "(":
		r.take()
		n := r.typ()
		r.need(")")
		return n
	case "int":
	case "bool":
		kind = api.YBool
	case "unit":
		kind = api.YUnit
	default:
		r.wrong()
	}
	r.take()
	return api.Node{Kind: kind, At: token.At}
}
